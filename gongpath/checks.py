"""Tells whether what is handed in is what it should be, and refuses it if not."""

from gongpath.errors import BadGame, BadPlace, BadPlayer, BadSteps, TooMany

MOST_PLACES = 40


def is_number(value):
    # Python counts True and False among its integers; the document does not.
    return isinstance(value, int) and not isinstance(value, bool)


def is_player(value):
    return is_number(value) and value in (0, 1)


def is_place(value, many):
    return is_number(value) and 0 <= value < many


def is_places(value, many):
    """Whether it is a list of places, no two alike."""
    if not isinstance(value, list):
        return False
    # The kinds are looked at first, since not everything can be put into a set.
    if not all([is_place(item, many) for item in value]):
        return False
    return len(set(value)) == len(value)


def is_ways(value, many):
    return is_places(value, many) and len(value) > 0


def is_row(value, many):
    if not isinstance(value, tuple) or len(value) != 3:
        return False
    player, number, ways = value
    if not is_number(number) or number < 0:
        return False
    return is_player(player) and is_ways(ways, many)


def is_step(value, row):
    # True would be found among ways that hold 1, yet it is no number.
    return is_number(value) and value in row[2]


def check_game(game):
    if not isinstance(game, list) or len(game) > MOST_PLACES:
        raise BadGame(None)
    for place, row in enumerate(game):
        if not is_row(row, len(game)):
            raise BadGame(place)


def check_few(game, most):
    if len(game) > most:
        raise TooMany(f"more than {most} places")


def check_player(player):
    if not is_player(player):
        raise BadPlayer("neither 0 nor 1")


def check_place(game, place):
    if not is_place(place, len(game)):
        raise BadPlace("no place of the game")


def check_places(game, places):
    if not is_places(places, len(game)):
        raise BadPlace("no list of unlike places of the game")


def check_many_steps(game, steps):
    if not isinstance(steps, list) or len(steps) != len(game):
        raise BadSteps(None)


def check_steps(game, steps):
    """Refuses what is not a step for each place."""
    check_many_steps(game, steps)
    for place, step in enumerate(steps):
        if not is_step(step, game[place]):
            raise BadSteps(place)


def check_steps_for(game, player, places, steps):
    """Refuses what is not a step or None for each place, a step where the player needs one."""
    check_many_steps(game, steps)
    for place, step in enumerate(steps):
        if step is None:
            if game[place][0] == player and place in places:
                raise BadSteps(place)
        elif not is_step(step, game[place]):
            raise BadSteps(place)
