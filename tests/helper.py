"""Games that several tests use, and what is no game."""

import itertools

from gongpath.games import lean, turned
from gongpath.walks import heard, walk, winner

# Every function that has landed, asked about a game alone. Steps and place are
# wrong on purpose: what is no game must be refused ahead of them.
ASKED_OF_A_GAME = [
    ("turned", turned),
    ("lean", lean),
    ("walk", lambda game: walk(game, None, None)),
    ("heard", lambda game: heard(game, None, None)),
    ("winner", lambda game: winner(game, None, None)),
]

NO_LISTS = [None, 0, 3, True, "", "012", (), (0, 1, 2), {}, {0: 1}, {0, 1, 2}]

# None of these is a row of a game of three places.
NO_ROWS = [
    None, 0, "abc", [0, 1, [0]], {0: 0, 1: 1, 2: [0]},
    (), (0,), (0, 1), (0, 1, [0], 0), (0, 1, [0], [0]),
    (2, 1, [0]), (-1, 1, [0]), (True, 1, [0]), (False, 1, [0]), (None, 1, [0]),
    ("0", 1, [0]), ([0], 1, [0]), (0.0, 1, [0]),
    (0, -1, [0]), (0, -(10 ** 30), [0]), (0, True, [0]), (0, False, [0]),
    (0, None, [0]), (0, "1", [0]), (0, [1], [0]), (0, 1.0, [0]),
    (0, 1, None), (0, 1, 0), (0, 1, (0,)), (0, 1, {0}), (0, 1, {0: 0}), (0, 1, "0"),
    (0, 1, range(1)), (0, 1, []),
    (0, 1, [0, 0]), (0, 1, [1, 2, 1]), (1, 1, [0, 2, 2]), (0, 1, [0, 1, 2, 0]),
    (0, 1, [3]), (0, 1, [0, 1, 2, 3]), (0, 1, [-1]), (0, 1, [0, -3]), (0, 1, [10 ** 30]),
    (0, 1, [True]), (0, 1, [False]), (0, 1, [2, True]), (0, 1, [None]), (0, 1, ["0"]),
    (0, 1, [[0]]), (0, 1, [(0,)]), (0, 1, [0.0]),
]


def fine_game():
    """A game of five places, made anew."""
    return [
        (0, 3, [1, 3]),
        (1, 8, [2, 0]),
        (0, 5, [2, 1]),
        (1, 0, [4]),
        (1, 2, [3, 4, 0]),
    ]


def ring_game(many):
    """A game of one great ring, each place's number its own."""
    return [(place % 2, place, [(place + 1) % many]) for place in range(many)]


def full_game(numbers):
    """A game with ways from each place to each, itself too."""
    places = range(len(numbers))
    return [(place % 2, numbers[place], list(places)) for place in places]


def all_steps(many):
    """Each choice of steps there is in a full game."""
    return [list(steps) for steps in itertools.product(range(many), repeat=many)]


def refused(test, error, ask, *told):
    """The error with which a question is refused."""
    with test.assertRaises(error) as caught:
        ask(*told)
    test.assertIs(type(caught.exception), error)
    return caught.exception
