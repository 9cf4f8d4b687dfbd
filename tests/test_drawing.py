import itertools
import unittest

from gongpath.drawing import rounds
from gongpath.errors import BadGame, BadPlace, BadPlayer
from gongpath.games import lean, turned
from tests.helper import (
    NO_PLACE_LISTS, NO_PLAYERS, Draw, drawn_games, fine_game, full_game, refused, ring_game,
)


def within(game, player, places, many):
    """The places from which the player leads there within so many steps, by point 6's words."""
    if many == 0:
        return set(places)
    before = within(game, player, places, many - 1)
    found = set(before)
    for place, (owner, _, ways) in enumerate(game):
        inside = [way in before for way in ways]
        if any(inside) if owner == player else all(inside):
            found.add(place)
    return found


def rounds_by_steps(game, player, places):
    """The rounds by the least number of steps within which the player leads."""
    by_steps = [within(game, player, places, many) for many in range(len(game) + 1)]
    return [
        next((many for many, found in enumerate(by_steps) if place in found), None)
        for place in range(len(game))
    ]


class Rounds(unittest.TestCase):
    def test_noughts_for_these_places_themselves(self):
        self.assertEqual(rounds([(0, 0, [0])], 0, [0]), [0])
        self.assertEqual(rounds([(0, 0, [0])], 1, [0]), [0])
        self.assertEqual(rounds([(0, 0, [0]), (1, 0, [1])], 0, [0, 1]), [0, 0])

    def test_none_from_where_the_player_does_not_lead_there(self):
        game = [(0, 0, [0]), (0, 0, [1])]
        for player in (0, 1):
            self.assertEqual(rounds(game, player, [0]), [0, None])
            self.assertEqual(rounds(game, player, [1]), [None, 0])

    def test_own_places_need_one_way_to_such_a_place(self):
        game = [(0, 0, [0]), (0, 0, [1, 0]), (0, 0, [2, 1])]
        self.assertEqual(rounds(game, 0, [0]), [0, 1, 2])

    def test_places_of_the_other_one_need_all_their_ways_there(self):
        game = [(0, 0, [0]), (1, 0, [0]), (1, 0, [0, 1]), (1, 0, [0, 1, 2])]
        self.assertEqual(rounds(game, 0, [0]), [0, 1, 2, 3])

    def test_all_but_one_of_the_other_ones_ways_are_not_enough(self):
        game = [(0, 0, [0]), (0, 0, [0]), (0, 0, [2]), (1, 0, [0, 1, 2]), (1, 0, [3, 0])]
        self.assertEqual(rounds(game, 0, [0]), [0, 1, None, None, None])
        self.assertEqual(rounds(game, 0, [0, 2]), [0, 1, 0, 2, 3])

    def test_the_same_places_are_led_to_by_the_other_player_in_another_way(self):
        game = [(0, 0, [0]), (0, 0, [0, 1]), (1, 0, [0, 2]), (1, 0, [1, 2])]
        self.assertEqual(rounds(game, 0, [0]), [0, 1, None, None])
        self.assertEqual(rounds(game, 1, [0]), [0, None, 1, 2])
        self.assertEqual(rounds(game, 1, [0, 1]), [0, 0, 1, 1])

    def test_own_places_take_the_least_way_and_those_of_the_other_one_the_greatest(self):
        chain = [(0, 0, [0]), (0, 0, [0]), (0, 0, [1]), (0, 0, [2])]
        self.assertEqual(rounds(chain + [(0, 0, [3, 1, 2])], 0, [0]), [0, 1, 2, 3, 2])
        self.assertEqual(rounds(chain + [(1, 0, [3, 1, 2])], 0, [0]), [0, 1, 2, 3, 4])

    def test_numbers_are_no_matter(self):
        game = fine_game()
        others = [(player, 10 ** 40 - number, ways) for player, number, ways in game]
        for player, place in itertools.product((0, 1), range(5)):
            self.assertEqual(rounds(others, player, [place]), rounds(game, player, [place]))

    def test_no_places(self):
        for player in (0, 1):
            self.assertEqual(rounds(fine_game(), player, []), [None] * 5)

    def test_all_places(self):
        for player in (0, 1):
            self.assertEqual(rounds(fine_game(), player, [0, 1, 2, 3, 4]), [0] * 5)
            self.assertEqual(rounds(fine_game(), player, [3, 1, 4, 0, 2]), [0] * 5)

    def test_several_places_in_another_order(self):
        for player, many in itertools.product((0, 1), range(6)):
            for places in itertools.permutations(range(5), many):
                self.assertEqual(
                    rounds(fine_game(), player, list(places)),
                    rounds(fine_game(), player, sorted(places)))

    def test_a_game_of_0_places(self):
        for player in (0, 1):
            self.assertEqual(rounds([], player, []), [])

    def test_40_places(self):
        for player in (0, 1):
            self.assertEqual(rounds(ring_game(40), player, [39]), list(range(39, -1, -1)))
            self.assertEqual(rounds(ring_game(40), player, [0]), [0] + list(range(39, 0, -1)))
            self.assertEqual(rounds(ring_game(40), player, list(range(40))), [0] * 40)
        game = full_game([0] * 40)
        self.assertEqual(rounds(game, 0, [1]), [1, 0] + [1, None] * 19)
        self.assertEqual(rounds(game, 1, [0, 1]), [0, 0] + [None, 1] * 19)

    def test_against_the_words_of_the_document(self):
        draw = Draw(6)
        for game in drawn_games(1, 300, 8):
            for player in (0, 1):
                places = draw.some(range(len(game)), 3)
                self.assertEqual(
                    rounds(game, player, places), rounds_by_steps(game, player, places))

    def test_the_other_player_leads_as_this_one_where_players_are_exchanged(self):
        for game in drawn_games(2, 100, 8):
            for player in (0, 1):
                told = rounds(game, player, [0])
                self.assertEqual(rounds(turned(game), 1 - player, [0]), told)
                self.assertEqual(rounds(lean(game), player, [0]), told)

    def test_what_is_told_is_a_list_of_numbers_or_none(self):
        told = rounds(fine_game(), 0, [2])
        self.assertIs(type(told), list)
        self.assertEqual({type(number) for number in told} - {int, type(None)}, set())


class Refusals(unittest.TestCase):
    def test_no_player(self):
        for player in NO_PLAYERS:
            with self.subTest(player=player):
                refused(self, BadPlayer, rounds, fine_game(), player, [0])
                refused(self, BadPlayer, rounds, [], player, [])

    def test_no_list_of_unlike_places(self):
        for player, places in itertools.product((0, 1), NO_PLACE_LISTS):
            with self.subTest(player=player, places=places):
                refused(self, BadPlace, rounds, fine_game(), player, places)

    def test_a_game_of_0_places_has_no_place(self):
        for places in ([0], [-1], [None], None, ()):
            refused(self, BadPlace, rounds, [], 0, places)

    def test_the_order_of_the_refusals(self):
        self.assertEqual(refused(self, BadGame, rounds, [(0, 0, [1])], 0, [0]).at, 0)
        self.assertEqual(refused(self, BadGame, rounds, [(0, 0, [1])], 2, [0]).at, 0)
        self.assertEqual(refused(self, BadGame, rounds, [(0, 0, [1])], 0, None).at, 0)
        self.assertIsNone(refused(self, BadGame, rounds, None, None, None).at)
        for player, places in itertools.product(NO_PLAYERS, NO_PLACE_LISTS):
            refused(self, BadPlayer, rounds, fine_game(), player, places)


if __name__ == "__main__":
    unittest.main()
