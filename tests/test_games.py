import copy
import itertools
import unittest

from gongpath.errors import BadGame
from gongpath.games import lean, turned
from gongpath.walks import heard, winner
from tests.helper import (
    ASKED_OF_A_GAME, NO_LISTS, NO_ROWS, all_steps, fine_game, full_game, refused, ring_game,
)


def least_by_counting(numbers):
    """The least numbers by another way: each is told by the changes of kind below it."""
    found = []
    for number in numbers:
        below = sorted(other for other in numbers if other <= number)
        changes = sum(a % 2 != b % 2 for a, b in zip(below, below[1:]))
        found.append(below[0] % 2 + changes)
    return found


def lean_numbers(numbers):
    return [row[1] for row in lean(full_game(numbers))]


class WhatIsAGame(unittest.TestCase):
    def test_no_list(self):
        for name, ask in ASKED_OF_A_GAME:
            for game in NO_LISTS:
                with self.subTest(name, game=game):
                    self.assertIsNone(refused(self, BadGame, ask, game).at)

    def test_more_than_40_places(self):
        for name, ask in ASKED_OF_A_GAME:
            for game in (ring_game(41), ring_game(60), [None] * 41):
                with self.subTest(name, many=len(game)):
                    self.assertIsNone(refused(self, BadGame, ask, game).at)

    def test_each_kind_of_row_that_is_none_at_each_place(self):
        for name, ask in ASKED_OF_A_GAME:
            for row, at in itertools.product(NO_ROWS, range(3)):
                game = ring_game(3)
                game[at] = row
                with self.subTest(name, row=row, at=at):
                    self.assertEqual(refused(self, BadGame, ask, game).at, at)

    def test_the_first_such_place(self):
        for name, ask in ASKED_OF_A_GAME:
            with self.subTest(name):
                game = ring_game(40)
                game[39] = None
                self.assertEqual(refused(self, BadGame, ask, game).at, 39)
                game[7] = (0, 0, [40])
                game[8] = (0, 0, [])
                self.assertEqual(refused(self, BadGame, ask, game).at, 7)
                game[0] = (2, 0, [0])
                self.assertEqual(refused(self, BadGame, ask, game).at, 0)

    def test_a_way_is_measured_by_the_places_of_this_game(self):
        for name, ask in ASKED_OF_A_GAME:
            with self.subTest(name):
                self.assertEqual(refused(self, BadGame, ask, [(0, 0, [1])]).at, 0)
        self.assertEqual(lean([(0, 0, [1]), (0, 0, [0])]), [(0, 0, [1]), (0, 0, [0])])

    def test_games_of_0_to_40_places(self):
        for many in range(41):
            with self.subTest(many=many):
                game = ring_game(many)
                self.assertEqual(lean(game), game)
                self.assertEqual(len(turned(game)), many)
                for place in (0, many - 1) if many else ():
                    steps = [ways[0] for _, _, ways in game]
                    self.assertEqual(heard(game, steps, place), many - 1)

    def test_ways_to_all_40_places(self):
        game = full_game([5] * 40)
        self.assertEqual(lean(game), full_game([1] * 40))

    def test_rows_may_be_one_and_the_same(self):
        row = (1, 4, [0, 1])
        self.assertEqual(turned([row, row]), [(0, 5, [0, 1]), (0, 5, [0, 1])])


class Turned(unittest.TestCase):
    def test_no_place(self):
        self.assertEqual(turned([]), [])

    def test_a_way_to_itself(self):
        self.assertEqual(turned([(0, 0, [0])]), [(1, 1, [0])])
        self.assertEqual(turned([(1, 7, [0])]), [(0, 8, [0])])

    def test_players_numbers_and_ways(self):
        self.assertEqual(turned(fine_game()), [
            (1, 4, [1, 3]),
            (0, 9, [2, 0]),
            (1, 6, [2, 1]),
            (0, 1, [4]),
            (0, 3, [3, 4, 0]),
        ])

    def test_numbers_far_greater_than_the_places(self):
        self.assertEqual(turned([(0, 10 ** 60, [0])]), [(1, 10 ** 60 + 1, [0])])

    def test_twice_is_the_same_players_and_numbers_two_more(self):
        self.assertEqual(
            turned(turned(fine_game())),
            [(player, number + 2, ways) for player, number, ways in fine_game()])

    def test_the_other_one_wins_each_walk(self):
        for numbers in itertools.product(range(4), repeat=3):
            game = full_game(numbers)
            for steps, place in itertools.product(all_steps(3), range(3)):
                self.assertEqual(
                    winner(turned(game), steps, place), 1 - winner(game, steps, place))


class Lean(unittest.TestCase):
    def test_no_place(self):
        self.assertEqual(lean([]), [])

    def test_one_place(self):
        for number in (0, 2, 4, 10 ** 40):
            self.assertEqual(lean([(1, number, [0])]), [(1, 0, [0])])
        for number in (1, 3, 5, 10 ** 40 + 1):
            self.assertEqual(lean([(0, number, [0])]), [(0, 1, [0])])

    def test_the_least_one_even(self):
        self.assertEqual(lean_numbers([2, 5, 7, 8]), [0, 1, 1, 2])
        self.assertEqual(lean_numbers([4, 9, 12, 21]), [0, 1, 2, 3])

    def test_the_least_one_odd(self):
        self.assertEqual(lean_numbers([3, 4, 6, 9]), [1, 2, 2, 3])
        self.assertEqual(lean_numbers([1, 8]), [1, 2])
        self.assertEqual(lean_numbers([5, 5, 7]), [1, 1, 1])

    def test_numbers_of_one_kind_beside_each_other_in_their_order(self):
        self.assertEqual(lean_numbers([0, 2, 4, 6]), [0, 0, 0, 0])
        self.assertEqual(lean_numbers([6, 1, 4, 3, 8]), [2, 1, 2, 1, 2])
        self.assertEqual(lean_numbers([2, 3, 4, 6, 7]), [0, 1, 2, 2, 3])

    def test_equal_numbers(self):
        self.assertEqual(lean_numbers([4, 4, 4]), [0, 0, 0])
        self.assertEqual(lean_numbers([9, 4, 9, 4, 6]), [1, 0, 1, 0, 0])

    def test_gaps(self):
        self.assertEqual(lean_numbers([100, 7, 1000, 51, 10 ** 50 + 1]), [2, 1, 2, 1, 3])

    def test_the_order_of_the_places_is_not_that_of_the_numbers(self):
        self.assertEqual(lean_numbers([8, 5, 2, 11]), [2, 1, 0, 3])

    def test_players_and_ways_stay(self):
        self.assertEqual(lean(fine_game()), [
            (0, 1, [1, 3]),
            (1, 2, [2, 0]),
            (0, 1, [2, 1]),
            (1, 0, [4]),
            (1, 0, [3, 4, 0]),
        ])

    def test_40_numbers_each_its_own(self):
        self.assertEqual(lean_numbers([3 * place + 1 for place in range(40)]),
                         [place + 1 for place in range(40)])
        self.assertEqual(lean_numbers([4 * place for place in range(40)]), [0] * 40)

    def test_against_the_changes_of_kind(self):
        for many in range(1, 5):
            for numbers in itertools.product(range(6), repeat=many):
                self.assertEqual(lean_numbers(numbers), least_by_counting(numbers))

    def test_least_numbers_stay(self):
        for numbers in itertools.product(range(5), repeat=3):
            once = lean(full_game(numbers))
            self.assertEqual(lean(once), once)

    def test_the_same_one_wins_each_walk(self):
        for numbers in itertools.product(range(5), repeat=3):
            game = full_game(numbers)
            for steps, place in itertools.product(all_steps(3), range(3)):
                self.assertEqual(winner(lean(game), steps, place), winner(game, steps, place))


class WhoseIsWhat(unittest.TestCase):
    """Point 1: nothing handed in is changed or kept, what is told is the asker's own."""

    def test_what_is_handed_in_stays(self):
        for tell in (turned, lean):
            game = fine_game()
            rows = list(game)
            tell(game)
            self.assertEqual(game, fine_game())
            for row, before in zip(game, rows):
                self.assertIs(row, before)

    def test_what_is_told_is_the_askers_own(self):
        least = [(0, 0, [0, 1]), (1, 1, [1, 0])]
        for tell, game in itertools.product((turned, lean), (fine_game(), least)):
            before = copy.deepcopy(game)
            told = tell(game)
            expected = copy.deepcopy(told)
            for _, _, ways in told:
                ways.append(99)
                ways.reverse()
            told.clear()
            self.assertEqual(game, before)
            self.assertEqual(tell(game), expected)

    def test_lists_that_are_told_are_not_one_and_the_same(self):
        ways = [0, 1]
        for tell in (turned, lean):
            told = tell([(0, 0, ways), (1, 0, ways)])
            told[0][2].clear()
            self.assertEqual(told[1][2], [0, 1])
            self.assertEqual(ways, [0, 1])

    def test_what_is_handed_in_is_not_kept(self):
        for tell in (turned, lean):
            game = fine_game()
            told = tell(game)
            expected = copy.deepcopy(told)
            for _, _, ways in game:
                ways.clear()
            game.clear()
            self.assertEqual(told, expected)
            self.assertEqual(tell(game), [])
            self.assertEqual(tell(fine_game()), expected)

    def test_what_is_told_is_lists_of_tuples_with_lists(self):
        for tell in (turned, lean):
            told = tell(fine_game())
            self.assertIs(type(told), list)
            for row in told:
                self.assertIs(type(row), tuple)
                self.assertEqual([type(part) for part in row], [int, int, list])

    def test_what_is_refused_stays(self):
        for tell in (turned, lean):
            game = [(0, 3, [1, 0]), (0, 2, [1, 1])]
            refused(self, BadGame, tell, game)
            self.assertEqual(game, [(0, 3, [1, 0]), (0, 2, [1, 1])])


if __name__ == "__main__":
    unittest.main()
