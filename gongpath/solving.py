"""Who wins from each place, and by which steps."""

from gongpath.checks import check_game
from gongpath.drawing import drawn, everywhere
from gongpath.games import lean


def won(game):
    """For each place who wins from it."""
    return [winner for winner, _ in settled(game)]


def winning_steps(game):
    """For each place that is its winner's own a step, None for all others."""
    return [step for _, step in settled(game)]


def settled(game):
    """For each place a pair of its winner and the winner's step, None where there is none."""
    check_game(game)
    # The same one wins by the least numbers, and the fewer there are, the less is to do.
    found = settled_inside(lean(game), everywhere(game), {})
    return [found[place] for place in range(len(game))]


def settled_inside(game, inside, known):
    """A dict of such a pair for each place inside, where no way out of inside counts.

    known: what was told before, since the same places are left again and again.
    """
    if len(inside) == 0:
        return {}
    key = tuple(inside)
    if key not in known:
        known[key] = settle(game, inside, known)
    return known[key]


def settle(game, inside, known):
    """What settled_inside tells, found out by fewer places.

    The player is the one who wants to hear the greatest number inside again and again.
    If the other one wins nowhere among the places from which the player doesn't lead to
    that number, the player wins from all places. Else the other one wins from wherever
    it leads to the places it won, and what is left is settled anew.
    """
    greatest = max([game[place][1] for place in inside])
    player = greatest % 2
    goals = [place for place in inside if game[place][1] == greatest]
    near = drawn(game, inside, player, goals)
    far = settled_inside(game, without(inside, near), known)
    lost = [place for place in far if far[place][0] != player]
    if len(lost) == 0:
        found = claimed(game, inside, player, near)
        return {**far, **found}
    taken = drawn(game, inside, 1 - player, lost)
    found = claimed(game, inside, 1 - player, taken)
    for place in lost:
        # From here its steps win already, and no way by them leads back to the others.
        found[place] = far[place]
    left = settled_inside(game, without(inside, taken), known)
    return {**found, **left}


def without(inside, near):
    """The places inside that are not near, in the same order."""
    return {place: True for place in inside if place not in near}


def claimed(game, inside, player, near):
    """A dict of a pair for each place near, by which the player wins with steps that lead.

    near: the rounds of each place.
    """
    return {place: (player, leading_step(game, inside, player, near, place)) for place in near}


def leading_step(game, inside, player, near, place):
    """A step to fewer rounds, or from rounds of 0 any step inside; None if not the player's."""
    owner, _, ways = game[place]
    if owner != player:
        return None
    if near[place] == 0:
        return [way for way in ways if way in inside][0]
    return [way for way in ways if way in near and near[way] < near[place]][0]
