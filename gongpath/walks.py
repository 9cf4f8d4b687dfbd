"""Walks by given steps, and who wins them."""

from gongpath.checks import check_game, check_place, check_steps


def walk(game, steps, place):
    """The places ahead of the ring, and the ring, as a pair of lists."""
    check_game(game)
    check_steps(game, steps)
    check_place(game, place)
    come_to = []
    now = place
    while now not in come_to:
        come_to.append(now)
        now = steps[now]
    start = come_to.index(now)
    return come_to[:start], come_to[start:]


def heard(game, steps, place):
    """The greatest number that is heard again and again."""
    _, ring = walk(game, steps, place)
    return max([game[at][1] for at in ring])


def winner(game, steps, place):
    """The player who wins the walk, 0 or 1."""
    return heard(game, steps, place) % 2
