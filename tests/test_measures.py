import itertools
import unittest

from gongpath.errors import BadGame, TooMany
from gongpath.measures import measures
from gongpath.solving import won
from tests.helper import drawn_games, full_game, refused, ring_game


def odd_numbers(game):
    return sorted({row[1] for row in game if row[1] % 2 == 1}, reverse=True)


def all_measures(game):
    """Each measure there is, in their order."""
    numbers = [row[1] for row in game]
    return list(itertools.product(*[range(numbers.count(odd) + 1) for odd in odd_numbers(game)]))


def is_nought_below(measure, odds, number):
    return all(count == 0 for count, odd in zip(measure, odds) if odd < number)


def wanted(game, number, measure):
    """What a place of a number wants by a way to a place of some measure, by point 8's words."""
    if measure is None:
        return None
    odds = odd_numbers(game)
    cut = tuple(0 if odd < number else count for count, odd in zip(measure, odds))
    if number % 2 == 0:
        return cut
    behind = [other for other in all_measures(game)
              if other > cut and is_nought_below(other, odds, number)]
    return min(behind, default=None)


def order(measure):
    """None is greater than all."""
    return (measure is None, measure or ())


def has_at_least(measure, other):
    return order(measure) >= order(other)


def have_enough(game, told):
    for (player, number, ways), measure in zip(game, told):
        enough = [has_at_least(measure, wanted(game, number, told[way])) for way in ways]
        if not (any(enough) if player == 0 else all(enough)):
            return False
    return True


def least_by_looking(game):
    """The least measures, by a look at all there are."""
    some = all_measures(game) + [None]
    fine = [told for told in itertools.product(some, repeat=len(game)) if have_enough(game, told)]
    return [min([told[place] for told in fine], key=order) for place in range(len(game))]


def least_by_raising(game):
    """The least measures, by raising one at a time as little as it needs."""
    told = [all_measures(game)[0]] * len(game)
    again = True
    while again:
        again = False
        for place, (player, number, ways) in enumerate(game):
            wants = [wanted(game, number, told[way]) for way in ways]
            least = min(wants, key=order) if player == 0 else max(wants, key=order)
            if order(least) > order(told[place]):
                told[place] = least
                again = True
    return told


class Measures(unittest.TestCase):
    def test_no_place(self):
        self.assertEqual(measures([]), [])

    def test_an_empty_tuple_where_no_odd_number_stands(self):
        self.assertEqual(measures([(0, 0, [0])]), [()])
        self.assertEqual(measures([(0, 4, [1]), (1, 0, [0, 1]), (1, 8, [2])]), [(), (), ()])

    def test_none_by_an_odd_way_to_itself(self):
        for player in (0, 1):
            self.assertEqual(measures([(player, 1, [0])]), [None])
            self.assertEqual(measures([(player, 1, [1]), (player, 3, [1])]), [None, None])

    def test_one_odd_number_ahead_of_an_even_ring(self):
        self.assertEqual(measures([(0, 1, [1]), (0, 0, [1])]), [(1,), (0,)])
        self.assertEqual(measures([(0, 1, [1]), (0, 2, [0])]), [(1,), (0,)])
        self.assertEqual(measures([(1, 1, [1]), (1, 1, [2]), (1, 0, [2])]), [(2,), (1,), (0,)])

    def test_the_greatest_odd_number_first(self):
        game = [(0, 1, [1]), (0, 5, [2]), (0, 3, [3]), (0, 0, [3])]
        self.assertEqual(measures(game), [(1, 0, 1), (1, 0, 0), (0, 1, 0), (0, 0, 0)])

    def test_noughts_for_all_odd_numbers_less_than_its_own(self):
        game = [(0, 4, [1]), (0, 1, [2]), (0, 3, [3]), (0, 5, [4]), (0, 0, [4])]
        self.assertEqual(
            measures(game), [(1, 0, 0), (1, 1, 1), (1, 1, 0), (1, 0, 0), (0, 0, 0)])
        game[0] = (0, 0, [1])
        self.assertEqual(measures(game)[0], (1, 1, 1))
        game[0] = (0, 2, [1])
        self.assertEqual(measures(game)[0], (1, 1, 0))
        game[0] = (0, 6, [1])
        self.assertEqual(measures(game)[0], (0, 0, 0))

    def test_0_takes_the_least_and_1_the_greatest(self):
        game = [(0, 0, [2, 1]), (0, 1, [2]), (0, 0, [2]), (0, 0, [1, 2])]
        self.assertEqual(measures(game), [(0,), (1,), (0,), (0,)])
        game = [(1, 0, [2, 1]), (0, 1, [2]), (0, 0, [2]), (1, 0, [1, 2])]
        self.assertEqual(measures(game), [(1,), (1,), (0,), (1,)])

    def test_none_is_greater_than_all(self):
        game = [(0, 1, [0]), (0, 3, [2]), (0, 0, [2]), (0, 2, [0, 1]), (1, 2, [0, 1])]
        self.assertEqual(measures(game), [None, (1, 0), (0, 0), (1, 0), None])

    def test_a_ring_heard_for_less_than_a_greater_even_number(self):
        game = [(1, 1, [0, 1]), (0, 2, [0])]
        self.assertEqual(measures(game), [None, None])
        game = [(0, 1, [0, 1]), (0, 2, [0])]
        self.assertEqual(measures(game), [(1,), (0,)])

    def test_against_a_look_at_all_measures(self):
        for game in drawn_games(11, 150, 3, 3, 5):
            self.assertEqual(measures(game), least_by_looking(game), game)

    def test_the_next_measure_may_have_a_greater_count_for_a_greater_number(self):
        # On the way up the count for 1 is full, and the one for 3 must rise.
        game = [(1, 1, [1]), (1, 0, [0, 2]), (0, 3, [3]), (0, 4, [0, 3])]
        self.assertEqual(measures(game), least_by_looking(game))
        self.assertEqual(measures(game), [None, None, (1, 0), (0, 0)])

    def test_against_raising_one_at_a_time(self):
        for game in drawn_games(12, 120, 6, 3, 8):
            self.assertEqual(measures(game), least_by_raising(game), game)

    def test_none_just_where_1_wins(self):
        for game in (*drawn_games(13, 600, 10, 3, 12), *drawn_games(14, 100, 10, 10, 20)):
            told = measures(game)
            self.assertEqual([1 if measure is None else 0 for measure in told], won(game))

    def test_measures_are_tuples_with_a_count_for_each_odd_number(self):
        for game in drawn_games(15, 100, 10, 3, 9):
            numbers = [row[1] for row in game]
            told = measures(game)
            self.assertIs(type(told), list)
            self.assertEqual(len(told), len(game))
            for measure in told:
                if measure is not None:
                    self.assertIs(type(measure), tuple)
                    self.assertEqual(len(measure), len(odd_numbers(game)))
                    for count, odd in zip(measure, odd_numbers(game)):
                        self.assertIs(type(count), int)
                        self.assertIn(count, range(numbers.count(odd) + 1))

    def test_measures_have_enough(self):
        for game in drawn_games(16, 60, 8, 3, 6):
            self.assertTrue(have_enough(game, measures(game)))

    def test_great_numbers(self):
        top = 10 ** 40
        game = [(0, top + 1, [1]), (0, 7, [2]), (0, top, [2, 0])]
        self.assertEqual(measures(game), [(1, 0), (0, 1), (0, 0)])

    def test_odd_numbers_that_stand_in_another_order_in_a_set(self):
        game = [(0, 5, [1]), (0, 5, [2]), (0, 17, [3]), (0, 33, [4]), (0, 0, [4])]
        self.assertEqual(
            measures(game), [(1, 1, 2), (1, 1, 1), (1, 1, 0), (1, 0, 0), (0, 0, 0)])

    def test_the_ways_in_another_order(self):
        for game in drawn_games(17, 100, 8):
            other = [(player, number, ways[::-1]) for player, number, ways in game]
            self.assertEqual(measures(other), measures(game))

    def test_other_numbers_in_the_same_order(self):
        for game in drawn_games(18, 100, 8):
            other = [(player, number ** 3 + 2, ways) for player, number, ways in game]
            self.assertEqual(measures(other), measures(game))

    def test_ten_places(self):
        self.assertEqual(measures([(0, 2 * place + 1, [place]) for place in range(10)]), [None] * 10)
        self.assertEqual(measures(ring_game(10)), [None] * 10)
        chain = [(0, 1, [place + 1]) for place in range(9)] + [(0, 0, [9])]
        self.assertEqual(measures(chain), [(9 - place,) for place in range(10)])
        chain = [(1, 2 * place + 1, [place + 1]) for place in range(9)] + [(1, 0, [9])]
        self.assertEqual(measures(chain)[0], (1,) * 9)
        self.assertEqual(measures(chain)[8], (1,) + (0,) * 8)
        self.assertEqual(measures(full_game(list(range(1, 11)))), [
            (0, 0, 0, 0, 1), (1, 0, 0, 0, 0),
            (0, 0, 0, 1, 0), (1, 0, 0, 0, 0),
            (0, 0, 1, 0, 0), (1, 0, 0, 0, 0),
            (0, 1, 0, 0, 0), (1, 0, 0, 0, 0),
            (1, 0, 0, 0, 0), (0, 0, 0, 0, 0),
        ])


class Refusals(unittest.TestCase):
    def test_more_than_ten_places(self):
        for many in range(41):
            with self.subTest(many=many):
                if many > 10:
                    refused(self, TooMany, measures, ring_game(many))
                else:
                    self.assertEqual(len(measures(ring_game(many))), many)

    def test_what_is_no_game_is_refused_ahead_of_that(self):
        game = ring_game(11)
        game[10] = (0, 0, [11])
        self.assertEqual(refused(self, BadGame, measures, game).at, 10)
        self.assertIsNone(refused(self, BadGame, measures, ring_game(41)).at)


if __name__ == "__main__":
    unittest.main()
