import itertools
import unittest

from gongpath.errors import BadGame, BadPlace, BadPlayer, BadSteps
from gongpath.judging import flaw
from gongpath.solving import won
from tests.helper import (
    NO_LISTS, NO_PLACE_LISTS, NO_PLAYERS, Draw, drawn_games, fine_game, full_game, refused,
    ring_game, steps_of,
)


def ways_on(game, player, steps, place):
    """The player's step or the other one's ways."""
    return [steps[place]] if game[place][0] == player else game[place][2]


def first_way_out(game, player, places, steps):
    for place in sorted(places):
        for way in ways_on(game, player, steps, place):
            if way not in places:
                return ("leaves", place, way)
    return None


def rings_from(game, player, places, steps, path):
    """Each ring that goes on from the path back to its first place."""
    for way in ways_on(game, player, steps, path[-1]):
        if way == path[0]:
            yield list(path)
        elif way in places and way not in path:
            yield from rings_from(game, player, places, steps, path + [way])


def has_bad_ring(game, player, places, steps):
    """Whether some ring has a greatest number of the other one's kind, by a look at all rings."""
    return any(
        max(game[at][1] for at in ring) % 2 != player
        for place in places
        for ring in rings_from(game, player, places, steps, [place]))


class Flawless(unittest.TestCase):
    def test_no_places(self):
        for player in (0, 1):
            self.assertIsNone(flaw(fine_game(), player, [], [None] * 5))
            self.assertIsNone(flaw([], player, [], []))

    def test_a_ring_of_the_players_own_kind(self):
        for player, owner, number in itertools.product((0, 1), (0, 1), range(4)):
            game = [(owner, number, [0])]
            told = None if number % 2 == player else ("ring", [0])
            self.assertEqual(flaw(game, player, [0], [0]), told)

    def test_several_rings_all_of_its_kind(self):
        self.assertIsNone(flaw(fine_game(), 0, [0, 1, 2], [1, None, 1, None, None]))
        self.assertIsNone(flaw(fine_game(), 0, [0, 1, 2, 3, 4], [1, None, 1, None, None]))

    def test_one_great_ring(self):
        for many in range(1, 41):
            game = ring_game(many)
            steps = [ways[0] for _, _, ways in game]
            player = (many - 1) % 2
            self.assertIsNone(flaw(game, player, list(range(many)), steps))

    def test_none_as_a_step_where_none_is_needed(self):
        game = [(0, 2, [0, 1]), (0, 1, [1]), (1, 0, [0])]
        self.assertIsNone(flaw(game, 0, [0, 2], [0, None, None]))
        self.assertIsNone(flaw(game, 1, [1], [None, None, None]))
        self.assertIsNone(flaw(game, 0, [], [None, None, None]))

    def test_steps_that_are_not_needed_change_nothing(self):
        game = [(0, 2, [0, 1]), (0, 1, [1]), (1, 0, [0, 2])]
        for steps in itertools.product([0], [None, 1], [None, 0, 2]):
            self.assertIsNone(flaw(game, 0, [0, 2], list(steps)))
        for steps in itertools.product([0, 1, None], [None, 1], [0]):
            self.assertIsNone(flaw(game, 1, [1], list(steps)))

    def test_without_a_flaw_the_player_wins_from_each_of_the_places(self):
        flawless = 0
        for game in drawn_games(9, 60, 4):
            winners = won(game)
            everywhere = range(len(game))
            for player, many in itertools.product((0, 1), everywhere):
                for places in itertools.combinations(everywhere, many + 1):
                    for own in steps_of(game, player):
                        steps = [own.get(place) for place in everywhere]
                        if flaw(game, player, list(places), steps) is None:
                            flawless += 1
                            self.assertEqual({winners[place] for place in places}, {player})
        self.assertGreater(flawless, 100)


class Leaves(unittest.TestCase):
    def test_by_the_players_step(self):
        game = [(0, 0, [0, 1]), (0, 0, [1])]
        self.assertIsNone(flaw(game, 0, [0], [0, None]))
        self.assertEqual(flaw(game, 0, [0], [1, None]), ("leaves", 0, 1))

    def test_by_a_way_of_the_other_one_whatever_its_step_is(self):
        game = [(1, 0, [0, 1]), (1, 0, [1])]
        for step in (0, 1, None):
            self.assertEqual(flaw(game, 0, [0], [step, None]), ("leaves", 0, 1))
        self.assertIsNone(flaw(game, 0, [0, 1], [None, None]))

    def test_the_players_other_ways_are_no_matter(self):
        game = [(1, 1, [1, 2, 0]), (0, 0, [1]), (0, 0, [2])]
        self.assertIsNone(flaw(game, 1, [0], [0, None, None]))
        self.assertEqual(flaw(game, 1, [0], [2, None, None]), ("leaves", 0, 2))

    def test_the_first_way_out_in_the_rows_order(self):
        for ways in itertools.permutations(range(4)):
            game = [(1, 0, list(ways))] + [(1, 0, [0])] * 3
            first = [way for way in ways if way in (1, 3)][0]
            self.assertEqual(flaw(game, 0, [0, 2], [None] * 4), ("leaves", 0, first))

    def test_the_least_place_in_whatever_order_they_are_handed_in(self):
        game = full_game([0] * 5)
        for places in itertools.permutations([1, 2, 4]):
            for player, told in ((0, ("leaves", 1, 0)), (1, ("leaves", 2, 0))):
                steps = [None, 2, 4, None, 1]
                self.assertEqual(flaw(game, player, list(places), steps), told)

    def test_the_players_step_out_of_a_lesser_place(self):
        game = full_game([0] * 4)
        self.assertEqual(flaw(game, 0, [1, 2], [None, None, 3, None]), ("leaves", 1, 0))
        self.assertEqual(flaw(game, 1, [2, 1], [None, 3, None, None]), ("leaves", 1, 3))

    def test_ahead_of_any_ring(self):
        game = [(0, 1, [0]), (0, 1, [0, 1]), (1, 3, [2, 3]), (0, 0, [3])]
        self.assertEqual(flaw(game, 0, [0, 1, 2], [0, 1, None, None]), ("leaves", 2, 3))
        self.assertEqual(flaw(game, 0, [2, 1, 0], [0, 1, None, None]), ("leaves", 2, 3))
        self.assertEqual(flaw(game, 0, [0, 1], [0, 1, None, None])[0], "ring")

    def test_what_leads_from_other_places_is_no_matter(self):
        game = [(0, 0, [0]), (1, 0, [0, 1, 2]), (0, 1, [2, 0])]
        self.assertIsNone(flaw(game, 0, [0], [0, None, 2]))


class Rings(unittest.TestCase):
    def assert_bad_ring(self, told, game, player, places, steps):
        self.assertIs(type(told), tuple)
        self.assertEqual((told[0], len(told)), ("ring", 2))
        ring = told[1]
        self.assertIs(type(ring), list)
        self.assertGreater(len(ring), 0)
        self.assertEqual(len(set(ring)), len(ring))
        self.assertEqual(set(ring) - set(places), set())
        for place, following in zip(ring, ring[1:] + ring[:1]):
            self.assertIs(type(place), int)
            self.assertIn(following, ways_on(game, player, steps, place))
        self.assertEqual(max(game[place][1] for place in ring) % 2, 1 - player)

    def test_of_one_place(self):
        game = [(0, 2, [0, 1]), (1, 3, [1, 0]), (1, 3, [2])]
        self.assertEqual(flaw(game, 0, [0, 1], [0, None, None]), ("ring", [1]))
        self.assertEqual(flaw(game, 1, [1, 0], [None, 0, None]), ("ring", [0]))

    def test_of_two_places(self):
        game = [(0, 2, [1]), (1, 3, [0])]
        told = flaw(game, 0, [0, 1], [1, None])
        self.assert_bad_ring(told, game, 0, [0, 1], [1, None])
        self.assertEqual(len(told[1]), 2)
        self.assertIsNone(flaw(game, 1, [0, 1], [None, 0]))

    def test_of_40_places(self):
        game = ring_game(40)
        steps = [ways[0] for _, _, ways in game]
        told = flaw(game, 0, list(range(40)), steps)
        self.assert_bad_ring(told, game, 0, list(range(40)), steps)
        self.assertEqual(len(told[1]), 40)

    def test_the_greatest_number_alone_decides(self):
        for numbers in itertools.product(range(5), repeat=3):
            game = [(place % 2, numbers[place], [(place + 1) % 3]) for place in range(3)]
            for player in (0, 1):
                told = flaw(game, player, [0, 1, 2], [1, 2, 0])
                if max(numbers) % 2 == player:
                    self.assertIsNone(told)
                else:
                    self.assert_bad_ring(told, game, player, [0, 1, 2], [1, 2, 0])

    def test_a_ring_within_a_ring_with_a_greater_number(self):
        # The great ring hears 4, but 1 may go round 0 and 1 alone.
        game = [(0, 2, [1]), (1, 3, [2, 0]), (0, 4, [0])]
        told = flaw(game, 0, [0, 1, 2], [1, None, 0])
        self.assertEqual(sorted(told[1]), [0, 1])
        self.assert_bad_ring(told, game, 0, [0, 1, 2], [1, None, 0])

    def test_a_bad_number_that_no_ring_comes_to(self):
        game = [(0, 9, [1]), (1, 4, [2]), (0, 7, [1])]
        self.assertEqual(flaw(game, 0, [0, 1, 2], [1, None, 1])[0], "ring")
        game[1] = (1, 8, [2])
        self.assertIsNone(flaw(game, 0, [0, 1, 2], [1, None, 1]))

    def test_rings_that_the_players_steps_do_not_go(self):
        game = [(0, 1, [0, 1]), (0, 2, [0])]
        self.assertIsNone(flaw(game, 0, [0, 1], [1, 0]))
        self.assertEqual(flaw(game, 0, [0, 1], [0, 0]), ("ring", [0]))

    def test_great_numbers(self):
        top = 10 ** 50
        game = [(0, top, [1]), (0, top + 1, [0])]
        self.assert_bad_ring(flaw(game, 0, [1, 0], [1, 0]), game, 0, [0, 1], [1, 0])
        self.assertIsNone(flaw(game, 1, [1, 0], [None, None]))

    def test_against_a_look_at_all_rings(self):
        draw = Draw(7)
        kinds = []
        for game in drawn_games(8, 1500, 6):
            steps, player = draw.steps(game), draw.below(2)
            places = draw.some(range(len(game)), 2 * len(game))
            told = flaw(game, player, places, steps)
            kinds.append("none" if told is None else told[0])
            if kinds[-1] == "ring":
                self.assertIsNone(first_way_out(game, player, places, steps))
                self.assert_bad_ring(told, game, player, places, steps)
            else:
                self.assertEqual(told, first_way_out(game, player, places, steps))
            if told is None:
                self.assertFalse(has_bad_ring(game, player, places, steps))
        for kind in ("none", "ring", "leaves"):
            self.assertGreater(kinds.count(kind), 100)

    def test_a_flaw_of_several_kinds_is_told_in_the_kinds_of_values_listed(self):
        told = flaw(fine_game(), 1, [0], [None] * 5)
        self.assertEqual([type(part) for part in told], [str, int, int])
        told = flaw([(0, 0, [0])], 1, [0], [None])
        self.assertEqual([type(part) for part in told], [str, list])


class Refusals(unittest.TestCase):
    def test_no_player(self):
        for player in NO_PLAYERS:
            with self.subTest(player=player):
                refused(self, BadPlayer, flaw, fine_game(), player, [], [None] * 5)
                refused(self, BadPlayer, flaw, [], player, [], [])

    def test_no_list_of_unlike_places(self):
        for player, places in itertools.product((0, 1), NO_PLACE_LISTS):
            with self.subTest(player=player, places=places):
                refused(self, BadPlace, flaw, fine_game(), player, places, [1, 2, 1, 4, 0])
        refused(self, BadPlace, flaw, [], 0, [0], [])

    def test_steps_that_are_no_list_or_of_another_length(self):
        for player in (0, 1):
            for steps in NO_LISTS + [(1, 2, 1, 4, 0), [], [1], [None] * 4, [None] * 6]:
                with self.subTest(player=player, steps=steps):
                    error = refused(self, BadSteps, flaw, fine_game(), player, [0], steps)
                    self.assertIsNone(error.at)
        self.assertIsNone(refused(self, BadSteps, flaw, [], 0, [], [None]).at)

    def test_a_step_that_is_neither_none_nor_one_of_its_ways(self):
        wrong = [-1, 3, 10 ** 30, True, False, "", "0", 0.0, 1.0, [0], (0,), {}, [None]]
        for player, step, at in itertools.product((0, 1), wrong, range(3)):
            for places in ([], [0, 1, 2], [at]):
                steps = [0, 1, 2]
                steps[at] = step
                with self.subTest(player=player, step=step, at=at, places=places):
                    error = refused(
                        self, BadSteps, flaw, full_game([0, 1, 2]), player, places, steps)
                    self.assertEqual(error.at, at)

    def test_a_step_that_is_a_place_but_none_of_its_ways(self):
        for player, at in itertools.product((0, 1), range(5)):
            for step in set(range(5)) - set(fine_game()[at][2]):
                steps = [1, 2, 1, 4, 0]
                steps[at] = step
                error = refused(self, BadSteps, flaw, fine_game(), player, [], steps)
                self.assertEqual(error.at, at)

    def test_a_place_of_the_players_among_the_places_without_a_step(self):
        game = full_game([0] * 4)
        for player, at in itertools.product((0, 1), range(4)):
            steps = [0, 0, 0, 0]
            steps[at] = None
            if game[at][0] == player:
                error = refused(self, BadSteps, flaw, game, player, [3, 2, 1, 0], steps)
                self.assertEqual(error.at, at)
            else:
                flaw(game, player, [3, 2, 1, 0], steps)
            flaw(game, player, [place for place in range(4) if place != at], steps)

    def test_the_first_such_place(self):
        game = full_game([0] * 4)
        for steps, at in (([9, None, None, 9], 0), ([None, 9, None, 9], 1),
                          ([1, 1, None, 9], 2), ([1, None, 1, 9], 3)):
            error = refused(self, BadSteps, flaw, game, 0, [3, 2], steps)
            self.assertEqual(error.at, at)
        self.assertEqual(
            refused(self, BadSteps, flaw, game, 0, [2, 0, 1], [None] * 4).at, 0)
        self.assertEqual(
            refused(self, BadSteps, flaw, game, 1, [3, 1], [None, None, 9, None]).at, 1)

    def test_the_order_of_the_refusals(self):
        self.assertEqual(refused(self, BadGame, flaw, [(0, 0, [1])], 2, None, None).at, 0)
        self.assertEqual(refused(self, BadGame, flaw, [(0, 0, [1])], 0, [0], [0]).at, 0)
        for player in NO_PLAYERS:
            refused(self, BadPlayer, flaw, fine_game(), player, None, None)
            refused(self, BadPlayer, flaw, fine_game(), player, [5], [None] * 5)
            refused(self, BadPlayer, flaw, fine_game(), player, [0], [9] * 5)
        for places in NO_PLACE_LISTS:
            refused(self, BadPlace, flaw, fine_game(), 0, places, None)
            refused(self, BadPlace, flaw, fine_game(), 0, places, [9] * 5)

    def test_a_wrong_step_ahead_of_any_flaw(self):
        game = [(0, 1, [0, 1]), (0, 1, [1])]
        self.assertEqual(refused(self, BadSteps, flaw, game, 0, [0], [1, 0]).at, 1)
        self.assertEqual(refused(self, BadSteps, flaw, game, 0, [0, 1], [0, None]).at, 1)


if __name__ == "__main__":
    unittest.main()
