"""Point 1, for all ten functions."""

import copy
import unittest

from gongpath.drawing import rounds
from gongpath.games import lean, turned
from gongpath.judging import flaw
from gongpath.measures import measures
from gongpath.solving import winning_steps, won
from gongpath.walks import heard, walk, winner
from tests.helper import ASKED_OF_A_GAME, fine_game, full_game

ODD_GAME = [(0, 1, [0, 1]), (1, 3, [2]), (0, 2, [1]), (1, 0, [3, 0])]

# What each function is asked, and what it tells, written out.
QUESTIONS = [
    (turned, ([(0, 3, [0])],), [(1, 4, [0])]),
    (lean, ([(0, 8, [0, 1]), (1, 9, [1])],), [(0, 0, [0, 1]), (1, 1, [1])]),
    (walk, (fine_game(), [1, 2, 1, 4, 0], 3), ([3, 4, 0], [1, 2])),
    (heard, (fine_game(), [1, 2, 1, 4, 0], 3), 8),
    (winner, (fine_game(), [1, 2, 1, 4, 0], 3), 0),
    (rounds, (ODD_GAME, 0, [2, 1]), [1, 0, 0, None]),
    (rounds, (ODD_GAME, 1, []), [None, None, None, None]),
    (won, (ODD_GAME,), [1, 1, 1, 1]),
    (won, (fine_game(),), [0, 0, 0, 0, 0]),
    (winning_steps, (ODD_GAME,), [None, 2, None, 0]),
    (flaw, (ODD_GAME, 0, [0, 1, 2], [0, None, 1, None]), ("ring", [0])),
    (flaw, (ODD_GAME, 0, [1, 3], [1, None, 1, None]), ("leaves", 1, 2)),
    (flaw, (ODD_GAME, 1, [2, 1], [None, 2, None, None]), None),
    (measures, (ODD_GAME,), [None, None, None, None]),
    (measures, ([(1, 1, [1]), (0, 0, [1])],), [(1,), (0,)]),
    (measures, ([(1, 2, [1]), (0, 0, [1])],), [(), ()]),
]


def spoil(value):
    """Changes all that can be changed in a value."""
    if isinstance(value, (list, tuple)):
        for part in value:
            spoil(part)
    if isinstance(value, list):
        value.append(99)
        value.reverse()


class WhoseIsWhat(unittest.TestCase):
    def test_all_ten_functions_are_asked(self):
        self.assertEqual({ask.__name__ for ask, _, _ in QUESTIONS},
                         {name for name, _ in ASKED_OF_A_GAME})
        self.assertEqual(len(ASKED_OF_A_GAME), 10)

    def test_what_is_told(self):
        for ask, asked, told in QUESTIONS:
            with self.subTest(ask.__name__, asked=asked):
                self.assertEqual(ask(*asked), told)

    def test_what_is_handed_in_stays(self):
        for ask, asked, _ in QUESTIONS:
            with self.subTest(ask.__name__, asked=asked):
                given = copy.deepcopy(asked)
                ask(*given)
                self.assertEqual(given, asked)

    def test_what_is_handed_in_is_not_kept(self):
        for ask, asked, told in QUESTIONS:
            with self.subTest(ask.__name__, asked=asked):
                given = copy.deepcopy(asked)
                answer = ask(*given)
                spoil(given)
                self.assertEqual(answer, told)
                self.assertEqual(ask(*copy.deepcopy(asked)), told)

    def test_what_is_told_is_the_askers_own(self):
        for ask, asked, told in QUESTIONS:
            with self.subTest(ask.__name__, asked=asked):
                given = copy.deepcopy(asked)
                spoil(ask(*given))
                self.assertEqual(given, asked)
                self.assertEqual(ask(*given), told)

    def test_rows_that_are_one_and_the_same_and_lists_handed_in_twice(self):
        ways = [0, 1, 2]
        row = (0, 1, ways)
        game = [row, row, row]
        self.assertEqual(walk(game, ways, 2), ([], [2]))
        self.assertEqual(rounds(game, 0, ways), [0, 0, 0])
        self.assertEqual(won(game), [1, 1, 1])
        self.assertEqual(winning_steps(game), [None, None, None])
        self.assertEqual(flaw(game, 0, ways, ways)[0], "ring")
        self.assertEqual(measures(game), [None, None, None])
        self.assertEqual(game, [(0, 1, [0, 1, 2])] * 3)

    def test_numbers_that_are_told_are_no_true_and_no_false(self):
        game = full_game([1, 2, 3])
        told = [
            turned(game), lean(game), walk(game, [0, 1, 2], 0), heard(game, [0, 1, 2], 0),
            winner(game, [0, 1, 2], 0), rounds(game, 1, [1]), won(game), winning_steps(game),
            flaw(game, 0, [0, 1, 2], [0, 1, 2]), measures(game), measures([(0, 1, [1]), (0, 0, [1])]),
        ]
        for answer in told:
            self.assertNotIn("True", repr(answer))
            self.assertNotIn("False", repr(answer))


if __name__ == "__main__":
    unittest.main()
