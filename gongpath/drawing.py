"""Leading to places."""

from gongpath.checks import check_game, check_places, check_player


def rounds(game, player, places):
    """For each place its rounds, None where the player doesn't lead to the places."""
    check_game(game)
    check_player(player)
    check_places(game, places)
    found = drawn(game, everywhere(game), player, places)
    return [found.get(place) for place in range(len(game))]


def everywhere(game):
    """All places of a game, as a dict of True, since sets can't be handed on."""
    return {place: True for place in range(len(game))}


def drawn(game, inside, player, places):
    """A dict of the rounds of each place inside from which the player leads.

    No way out of inside counts; each place inside has a way that stays there.
    """
    found = {place: 0 for place in places}
    now = 0
    fresh = places
    while len(fresh) > 0:
        now += 1
        left = [place for place in inside if place not in found]
        fresh = [place for place in left if leads(game[place], inside, player, found)]
        for place in fresh:
            found[place] = now
    return found


def leads(row, inside, player, found):
    """Whether the player leads from a place of this row to those found, within one step."""
    owner, _, ways = row
    if owner == player:
        return any([way in found for way in ways])
    return all([way in found for way in ways if way in inside])
