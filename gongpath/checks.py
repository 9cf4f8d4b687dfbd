"""Tells whether what is handed in is what it should be, and refuses it if not."""

from gongpath.errors import BadGame, BadPlace, BadSteps

MOST_PLACES = 40


def is_number(value):
    # Python counts True and False among its integers; the document does not.
    return isinstance(value, int) and not isinstance(value, bool)


def is_player(value):
    return is_number(value) and value in (0, 1)


def is_place(value, many):
    return is_number(value) and 0 <= value < many


def is_ways(value, many):
    if not isinstance(value, list) or len(value) == 0:
        return False
    # The kinds are looked at first, since not everything can be put into a set.
    if not all([is_place(way, many) for way in value]):
        return False
    return len(set(value)) == len(value)


def is_row(value, many):
    if not isinstance(value, tuple) or len(value) != 3:
        return False
    player, number, ways = value
    if not is_number(number) or number < 0:
        return False
    return is_player(player) and is_ways(ways, many)


def check_game(game):
    if not isinstance(game, list) or len(game) > MOST_PLACES:
        raise BadGame(None)
    for place, row in enumerate(game):
        if not is_row(row, len(game)):
            raise BadGame(place)


def check_steps(game, steps):
    if not isinstance(steps, list) or len(steps) != len(game):
        raise BadSteps(None)
    for place, step in enumerate(steps):
        # True would be found among ways that hold 1, yet it is no number.
        if not is_number(step) or step not in game[place][2]:
            raise BadSteps(place)


def check_place(game, place):
    if not is_place(place, len(game)):
        raise BadPlace("no place of the game")
