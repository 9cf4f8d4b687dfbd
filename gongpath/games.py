"""Games with other players and other numbers."""

from gongpath.checks import check_game


def turned(game):
    """The game with the players exchanged and each number one more."""
    check_game(game)
    return [(1 - player, number + 1, list(ways)) for player, number, ways in game]


def lean(game):
    """The same game with the least numbers."""
    check_game(game)
    least = least_numbers([row[1] for row in game])
    return [(player, least[number], list(ways)) for player, number, ways in game]


def least_numbers(numbers):
    """For each of the numbers the one that it becomes, as a dict."""
    least = {}
    now = 0
    for number in sorted(numbers):
        # Only a change of kind makes a number greater; the first number is
        # compared with 0, so that odd ones rise from 1.
        if number % 2 != now % 2:
            now += 1
        least[number] = now
    return least
