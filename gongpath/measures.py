"""Measures of games.

Measures are ordered as tuples and there are not many of them. So each is worked with
by its rank, the number of measures less than it; None has the greatest rank of all.
"""

from gongpath.checks import check_few, check_game

MOST_MEASURED = 10


def measures(game):
    """For each place its measure."""
    check_game(game)
    check_few(game, MOST_MEASURED)
    sizes = sizes_of_counts([row[1] for row in game])
    return [measure_of(rank, sizes) for rank in least_ranks(game, sizes)]


def sizes_of_counts(numbers):
    """A dict of how many counts there are for each odd number, the least number first."""
    odd_numbers = sorted({number for number in numbers if number % 2 == 1})
    return {number: numbers.count(number) + 1 for number in odd_numbers}


def least_ranks(game, sizes):
    """The ranks of the least measures, by raising ranks from 0 until all have enough."""
    ranks = [0] * len(game)
    higher = raised(game, sizes, ranks)
    while higher != ranks:
        ranks = higher
        higher = raised(game, sizes, ranks)
    return ranks


def raised(game, sizes, ranks):
    """For each place the least rank that is enough by these ranks."""
    found = []
    for player, number, ways in game:
        wants = [wanted(number, sizes, ranks[way]) for way in ways]
        found.append(min(wants) if player == 0 else max(wants))
    return found


def wanted(number, sizes, rank):
    """The rank that a place of a number wants by a way to a place of some rank."""
    # Measures that differ in lesser odd numbers alone stand beside each other, and the
    # first of them is the one with noughts for these.
    alike = ranks_below(number, sizes)
    first = rank - rank % alike
    if number % 2 == 0:
        return first
    # None has the rank behind the last, and nothing is greater than it.
    return min(first + alike, all_ranks(sizes))


def ranks_below(number, sizes):
    """How many measures differ in odd numbers less than this one alone."""
    return multiplied([sizes[odd] for odd in sizes if odd < number])


def all_ranks(sizes):
    """How many measures there are; None has this rank."""
    return multiplied(list(sizes.values()))


def multiplied(numbers):
    answer = 1
    for number in numbers:
        answer = answer * number
    return answer


def measure_of(rank, sizes):
    """The measure of a rank."""
    counts = []
    left = rank
    for size in sizes.values():
        counts.append(left % size)
        left = left // size
    # Only None is behind all that the counts can tell.
    if left > 0:
        return None
    counts.reverse()
    return tuple(counts)
