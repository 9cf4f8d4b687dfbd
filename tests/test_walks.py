import copy
import itertools
import unittest

from gongpath.errors import BadGame, BadPlace, BadSteps
from gongpath.walks import heard, walk, winner
from tests.helper import NO_LISTS, all_steps, fine_game, full_game, refused, ring_game

ASKED = (walk, heard, winner)

FINE_STEPS = [1, 2, 1, 4, 0]

NO_PLACES = [-1, -5, 5, 6, 40, 10 ** 30, True, False, None, "0", "", 0.0, 1.5, [0], (0,), {}]


class Walks(unittest.TestCase):
    def test_ahead_of_the_ring_and_the_ring(self):
        self.assertEqual(walk(fine_game(), FINE_STEPS, 0), ([0], [1, 2]))
        self.assertEqual(walk(fine_game(), FINE_STEPS, 3), ([3, 4, 0], [1, 2]))

    def test_in_the_ring_from_the_start(self):
        self.assertEqual(walk(fine_game(), FINE_STEPS, 1), ([], [1, 2]))
        self.assertEqual(walk(fine_game(), FINE_STEPS, 2), ([], [2, 1]))

    def test_a_way_to_itself(self):
        self.assertEqual(walk([(0, 6, [0])], [0], 0), ([], [0]))
        steps = [1, 2, 2, 4, 4]
        self.assertEqual(walk(fine_game(), steps, 0), ([0, 1], [2]))
        self.assertEqual(walk(fine_game(), steps, 2), ([], [2]))
        self.assertEqual(walk(fine_game(), steps, 3), ([3], [4]))

    def test_the_step_need_not_be_the_first_way(self):
        game = full_game([0, 0, 0])
        self.assertEqual(walk(game, [2, 1, 1], 0), ([0, 2], [1]))

    def test_the_ring_is_told_from_where_it_is_come_to_first(self):
        game = full_game([0] * 4)
        self.assertEqual(walk(game, [2, 3, 1, 2], 0), ([0], [2, 1, 3]))
        self.assertEqual(walk(game, [3, 3, 1, 2], 0), ([0], [3, 2, 1]))

    def test_40_places(self):
        game = ring_game(40)
        steps = [ways[0] for _, _, ways in game]
        self.assertEqual(walk(game, steps, 0), ([], list(range(40))))
        self.assertEqual(walk(game, steps, 39), ([], [39] + list(range(39))))
        game[39] = (1, 39, [0, 39])
        steps[39] = 39
        self.assertEqual(walk(game, steps, 0), (list(range(39)), [39]))

    def test_against_a_walk_that_goes_on_for_long(self):
        for many in range(1, 5):
            game = full_game(list(range(many)))
            for steps, place in itertools.product(all_steps(many), range(many)):
                come_to = [place]
                for _ in range(5 * many):
                    come_to.append(steps[come_to[-1]])
                again = set(come_to[many:])
                ahead = [at for at in come_to[:many] if at not in again]
                ring = come_to[len(ahead):len(ahead) + len(again)]
                self.assertEqual(walk(game, steps, place), (ahead, ring))
                self.assertEqual(heard(game, steps, place), max(again))
                self.assertEqual(winner(game, steps, place), max(again) % 2)


class HeardAgainAndAgain(unittest.TestCase):
    def test_the_greatest_of_the_ring(self):
        self.assertEqual(heard(fine_game(), FINE_STEPS, 0), 8)
        self.assertEqual(heard(fine_game(), [3, 2, 2, 4, 3], 0), 2)
        self.assertEqual(heard(fine_game(), [3, 2, 2, 4, 0], 4), 3)

    def test_what_is_heard_ahead_of_the_ring_only_is_not_heard_again(self):
        steps = [1, 2, 2, 4, 4]
        self.assertEqual(heard(fine_game(), steps, 1), 5)
        self.assertEqual(winner(fine_game(), steps, 1), 1)
        self.assertEqual(heard(fine_game(), [3, 0, 1, 4, 4], 2), 2)
        self.assertEqual(winner(fine_game(), [3, 0, 1, 4, 4], 2), 0)

    def test_numbers_far_greater_than_the_places(self):
        game = full_game([10 ** 50, 10 ** 50 + 1, 4])
        self.assertEqual(heard(game, [1, 0, 2], 0), 10 ** 50 + 1)
        self.assertEqual(winner(game, [1, 0, 2], 0), 1)
        self.assertEqual(heard(game, [2, 0, 0], 1), 10 ** 50)
        self.assertEqual(winner(game, [2, 0, 0], 1), 0)

    def test_equal_numbers(self):
        self.assertEqual(heard(full_game([7, 7]), [1, 0], 0), 7)
        self.assertEqual(heard(full_game([0, 0]), [1, 0], 0), 0)

    def test_even_for_0_and_odd_for_1_whose_place_it_ever_is(self):
        for player, number in itertools.product((0, 1), range(6)):
            game = [(player, number, [0])]
            self.assertEqual(heard(game, [0], 0), number)
            self.assertEqual(winner(game, [0], 0), [0, 1][number % 2])

    def test_only_the_greatest_counts(self):
        self.assertEqual(winner(full_game([1, 3, 4]), [1, 2, 0], 0), 0)
        self.assertEqual(winner(full_game([0, 2, 5]), [1, 2, 0], 0), 1)


class Refusals(unittest.TestCase):
    def test_steps_that_are_no_list(self):
        for ask, steps in itertools.product(ASKED, NO_LISTS):
            with self.subTest(ask.__name__, steps=steps):
                self.assertIsNone(refused(self, BadSteps, ask, ring_game(3), steps, 0).at)

    def test_a_tuple_of_fine_steps_is_no_list(self):
        for ask in ASKED:
            error = refused(self, BadSteps, ask, fine_game(), tuple(FINE_STEPS), 0)
            self.assertIsNone(error.at)

    def test_steps_of_another_length(self):
        for ask in ASKED:
            for steps in ([], FINE_STEPS[:4], FINE_STEPS + [0], [None], [None] * 6):
                with self.subTest(ask.__name__, steps=steps):
                    self.assertIsNone(refused(self, BadSteps, ask, fine_game(), steps, 0).at)

    def test_a_step_that_is_none_of_its_ways(self):
        game = full_game([0, 1, 2])
        wrong = [-1, 3, 10 ** 30, True, False, None, "0", 0.0, 1.0, [0], (0,), {}]
        for ask, step, at in itertools.product(ASKED, wrong, range(3)):
            steps = [0, 1, 2]
            steps[at] = step
            with self.subTest(ask.__name__, step=step, at=at):
                self.assertEqual(refused(self, BadSteps, ask, game, steps, 0).at, at)

    def test_a_step_that_is_a_place_but_none_of_its_ways(self):
        for ask, at in itertools.product(ASKED, range(5)):
            ways = fine_game()[at][2]
            for step in set(range(5)) - set(ways):
                steps = list(FINE_STEPS)
                steps[at] = step
                with self.subTest(ask.__name__, step=step, at=at):
                    self.assertEqual(refused(self, BadSteps, ask, fine_game(), steps, 0).at, at)

    def test_a_wrong_step_that_the_walk_does_not_come_to(self):
        game = [(0, 0, [0]), (0, 0, [0])]
        for ask in ASKED:
            self.assertEqual(refused(self, BadSteps, ask, game, [0, 1], 0).at, 1)

    def test_the_first_such_place(self):
        for ask in ASKED:
            self.assertEqual(refused(self, BadSteps, ask, fine_game(), [1, 2, 0, 0, 9], 0).at, 2)
            self.assertEqual(refused(self, BadSteps, ask, fine_game(), [None] * 5, 0).at, 0)

    def test_a_place_that_is_none(self):
        for ask, place in itertools.product(ASKED, NO_PLACES):
            with self.subTest(ask.__name__, place=place):
                refused(self, BadPlace, ask, fine_game(), FINE_STEPS, place)

    def test_a_game_of_0_places_has_no_place_to_start_from(self):
        for ask in ASKED:
            for place in (0, -1, 1, None, True):
                refused(self, BadPlace, ask, [], [], place)
            self.assertIsNone(refused(self, BadSteps, ask, [], [0], 0).at)

    def test_the_order_of_the_refusals(self):
        game = [(0, 0, [1]), (0, 0, [])]
        for ask in ASKED:
            self.assertEqual(refused(self, BadGame, ask, game, [0, 0], 9).at, 1)
            self.assertEqual(refused(self, BadGame, ask, game, None, 0).at, 1)
            self.assertEqual(refused(self, BadGame, ask, game, [1, 0], None).at, 1)
            self.assertIsNone(refused(self, BadGame, ask, None, None, None).at)
            self.assertIsNone(refused(self, BadSteps, ask, fine_game(), None, 9).at)
            self.assertEqual(refused(self, BadSteps, ask, fine_game(), [0] * 5, 5).at, 0)
            self.assertEqual(refused(self, BadSteps, ask, fine_game(), [1, 2, 1, 4, 1], True).at, 4)


class WhoseIsWhat(unittest.TestCase):
    """Point 1: nothing handed in is changed or kept, what is told is the asker's own."""

    def test_what_is_handed_in_stays(self):
        for ask, place in itertools.product(ASKED, range(5)):
            game, steps = fine_game(), list(FINE_STEPS)
            ask(game, steps, place)
            self.assertEqual(game, fine_game())
            self.assertEqual(steps, FINE_STEPS)

    def test_what_is_told_is_the_askers_own(self):
        game, steps = fine_game(), list(FINE_STEPS)
        for place in range(5):
            told = walk(game, steps, place)
            expected = copy.deepcopy(told)
            for part in told:
                part.append(99)
                part.reverse()
            self.assertEqual(walk(game, steps, place), expected)
            self.assertEqual(game, fine_game())
            self.assertEqual(steps, FINE_STEPS)

    def test_what_is_told_is_not_what_was_handed_in(self):
        game, steps = [(0, 0, [0])], [0]
        ahead, ring = walk(game, steps, 0)
        ring.append(1)
        ahead.append(1)
        self.assertEqual((game, steps), ([(0, 0, [0])], [0]))

    def test_what_is_handed_in_is_not_kept(self):
        game, steps = fine_game(), list(FINE_STEPS)
        told = walk(game, steps, 3)
        steps[:] = [3, 2, 2, 4, 3]
        self.assertEqual(told, ([3, 4, 0], [1, 2]))
        self.assertEqual(walk(game, steps, 3), ([], [3, 4]))
        self.assertEqual(heard(game, steps, 3), 2)
        game[3] = (1, 7, [4])
        self.assertEqual(heard(game, steps, 3), 7)
        self.assertEqual(winner(game, steps, 3), 1)

    def test_what_is_told_is_a_pair_of_lists_or_a_number(self):
        told = walk(fine_game(), FINE_STEPS, 3)
        self.assertIs(type(told), tuple)
        self.assertEqual([type(part) for part in told], [list, list])
        self.assertIs(type(heard(fine_game(), FINE_STEPS, 3)), int)
        self.assertIs(type(winner(fine_game(), FINE_STEPS, 3)), int)


if __name__ == "__main__":
    unittest.main()
