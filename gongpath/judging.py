"""Steps without a flaw."""

from gongpath.checks import check_game, check_places, check_player, check_steps_for


def flaw(game, player, places, steps):
    """The flaw of a player's steps for some places, None without one."""
    check_game(game)
    check_player(player)
    check_places(game, places)
    check_steps_for(game, player, places, steps)
    going = ways_by_steps(game, player, places, steps)
    out = first_way_out(going)
    if out is not None:
        return ("leaves", *out)
    for place in going:
        if game[place][1] % 2 != player:
            ring = least_ring(game, going, place)
            if len(ring) > 0:
                return ("ring", ring)
    return None


def ways_by_steps(game, player, places, steps):
    """A dict of the ways from each of the places, the least one first."""
    going = {}
    for place in sorted(places):
        owner, _, ways = game[place]
        going[place] = [steps[place]] if owner == player else ways
    return going


def first_way_out(going):
    """The first place with a way out of these places, and the way, None without one."""
    for place, ways in going.items():
        for way in ways:
            if way not in going:
                return (place, way)
    return None


def least_ring(game, going, start):
    """The places of a shortest ring from start on, none with a greater number than start's."""
    before = {}
    fresh = [start]
    while len(fresh) > 0 and start not in before:
        come_to = []
        for place in fresh:
            for way in going[place]:
                if way not in before and game[way][1] <= game[start][1]:
                    before[way] = place
                    come_to.append(way)
        fresh = come_to
    if start not in before:
        return []
    return traced(before, start)


def traced(before, start):
    """The ring that the places before each one make, from start on."""
    ring = [before[start]]
    while ring[-1] != start:
        ring.append(before[ring[-1]])
    ring.reverse()
    return ring
