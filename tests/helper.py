"""Games that several tests use, and what is no game."""

import itertools

from gongpath.drawing import rounds
from gongpath.games import lean, turned
from gongpath.judging import flaw
from gongpath.measures import measures
from gongpath.solving import winning_steps, won
from gongpath.walks import heard, walk, winner

# Every function of the interface, asked about a game alone. All else is wrong
# on purpose: what is no game must be refused ahead of it.
ASKED_OF_A_GAME = [
    ("turned", turned),
    ("lean", lean),
    ("walk", lambda game: walk(game, None, None)),
    ("heard", lambda game: heard(game, None, None)),
    ("winner", lambda game: winner(game, None, None)),
    ("rounds", lambda game: rounds(game, None, None)),
    ("won", won),
    ("winning_steps", winning_steps),
    ("flaw", lambda game: flaw(game, None, None, None)),
    ("measures", measures),
]

NO_LISTS = [None, 0, 3, True, "", "012", (), (0, 1, 2), {}, {0: 1}, {0, 1, 2}]

NO_PLAYERS = [2, -1, 3, 10 ** 30, None, True, False, "", "0", "1", "one", 0.0, 1.0, [0], (1,), {}]

# None of these is a list of unlike places of a game of five places.
NO_PLACE_LISTS = NO_LISTS + [
    (), (0,), (1, 2), {1}, range(2), "01", {1: True},
    [0, 0], [1, 2, 1], [4, 3, 3], [0, 1, 2, 3, 4, 0],
    [5], [-1], [0, 1, 5], [2, -1], [10 ** 30], [-(10 ** 30)],
    [True], [False], [2, True], [0, False], [None], [0, None], ["0"], [1.0],
    [[0]], [0, [1]], [(0,)], [{}], [[]],
]

# None of these is a row of a game of three places.
NO_ROWS = [
    None, 0, "abc", [0, 1, [0]], {0: 0, 1: 1, 2: [0]},
    (), (0,), (0, 1), (0, 1, [0], 0), (0, 1, [0], [0]),
    (2, 1, [0]), (-1, 1, [0]), (True, 1, [0]), (False, 1, [0]), (None, 1, [0]),
    ("0", 1, [0]), ([0], 1, [0]), (0.0, 1, [0]),
    (0, -1, [0]), (0, -(10 ** 30), [0]), (0, True, [0]), (0, False, [0]),
    (0, None, [0]), (0, "1", [0]), (0, [1], [0]), (0, 1.0, [0]),
    (0, 1, None), (0, 1, 0), (0, 1, (0,)), (0, 1, {0}), (0, 1, {0: 0}), (0, 1, "0"),
    (0, 1, range(1)), (0, 1, []),
    (0, 1, [0, 0]), (0, 1, [1, 2, 1]), (1, 1, [0, 2, 2]), (0, 1, [0, 1, 2, 0]),
    (0, 1, [3]), (0, 1, [0, 1, 2, 3]), (0, 1, [-1]), (0, 1, [0, -3]), (0, 1, [10 ** 30]),
    (0, 1, [True]), (0, 1, [False]), (0, 1, [2, True]), (0, 1, [None]), (0, 1, ["0"]),
    (0, 1, [[0]]), (0, 1, [(0,)]), (0, 1, [0.0]),
]


def fine_game():
    """A game of five places, made anew."""
    return [
        (0, 3, [1, 3]),
        (1, 8, [2, 0]),
        (0, 5, [2, 1]),
        (1, 0, [4]),
        (1, 2, [3, 4, 0]),
    ]


def ring_game(many):
    """A game of one great ring, each place's number its own."""
    return [(place % 2, place, [(place + 1) % many]) for place in range(many)]


def full_game(numbers):
    """A game with ways from each place to each, itself too."""
    places = range(len(numbers))
    return [(place % 2, numbers[place], list(places)) for place in places]


def all_steps(many):
    """Each choice of steps there is in a full game."""
    return [list(steps) for steps in itertools.product(range(many), repeat=many)]


def steps_of(game, player):
    """Each choice of steps of one player, as dicts."""
    own = [place for place, row in enumerate(game) if row[0] == player]
    for steps in itertools.product(*[game[place][2] for place in own]):
        yield dict(zip(own, steps))


class Draw:
    """Numbers that look drawn by lot, the same ones in each run."""

    def __init__(self, seed):
        self.state = seed

    def below(self, many):
        self.state = (self.state * 6364136223846793005 + 1442695040888963407) % 2 ** 64
        return (self.state >> 33) % many

    def mixed(self, things):
        """The same things in another order."""
        return sorted(things, key=lambda thing: self.below(2 ** 20))

    def some(self, things, most):
        """One thing or more, at most so many, in any order."""
        return self.mixed(things)[:1 + self.below(most)]

    def game(self, many, most_ways, numbers):
        """A game of so many places, with numbers below some number."""
        return [
            (self.below(2), self.below(numbers), self.some(range(many), most_ways))
            for _ in range(many)
        ]

    def steps(self, game):
        return [ways[self.below(len(ways))] for _, _, ways in game]


def drawn_games(seed, many_games, most_places, most_ways=3, numbers=6):
    """Games that look drawn by lot, of one place up to the most."""
    draw = Draw(seed)
    for _ in range(many_games):
        yield draw.game(1 + draw.below(most_places), most_ways, 1 + draw.below(numbers))


def refused(test, error, ask, *told):
    """The error with which a question is refused."""
    with test.assertRaises(error) as caught:
        ask(*told)
    test.assertIs(type(caught.exception), error)
    return caught.exception


def small_games():
    """Each game of one place, each of two with small numbers, and some of three or four."""
    for many in (1, 2):
        ways = [list(some) for size in range(1, many + 1)
                for some in itertools.combinations(range(many), size)]
        rows = list(itertools.product((0, 1), range(4), ways))
        for game in itertools.product(rows, repeat=many):
            yield list(game)
    yield from drawn_games(3, 200, 4)


def great_games():
    """Games of 40 places of many kinds."""
    yield ring_game(40)
    yield full_game(list(range(40)))
    yield full_game([40 - place for place in range(40)])
    draw = Draw(40)
    for most_ways, numbers in itertools.product((1, 2, 3, 5, 40), (1, 2, 5, 40, 2 ** 30)):
        yield draw.game(40, most_ways, numbers)


def places_of(winners, player):
    return [place for place, who in enumerate(winners) if who == player]
