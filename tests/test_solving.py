import itertools
import unittest

from gongpath.games import lean, turned
from gongpath.judging import flaw
from gongpath.solving import winning_steps, won
from gongpath.walks import walk, winner
from tests.helper import (
    Draw, drawn_games, fine_game, full_game, great_games, places_of, ring_game, small_games,
    steps_of,
)


def put_together(game, steps, others):
    """A list of the steps of both players."""
    both = {**steps, **others}
    return [both[place] for place in range(len(game))]


def has_winning_steps(game, player, place):
    """Whether some steps of the player win from a place against all of the other one."""
    return any(
        all(
            winner(game, put_together(game, steps, others), place) == player
            for others in steps_of(game, 1 - player))
        for steps in steps_of(game, player))


def own_steps(game, player, steps):
    """The player's steps, the first way where it has none."""
    return {
        place: row[2][0] if steps[place] is None else steps[place]
        for place, row in enumerate(game) if row[0] == player
    }


class Won(unittest.TestCase):
    def test_no_place(self):
        self.assertEqual(won([]), [])

    def test_a_way_to_itself(self):
        for player, number in itertools.product((0, 1), range(6)):
            self.assertEqual(won([(player, number, [0])]), [number % 2])

    def test_the_player_whose_place_it_is_chooses(self):
        rings = [(0, 2, [0]), (0, 1, [1])]
        self.assertEqual(won(rings + [(0, 9, [0, 1])]), [0, 1, 0])
        self.assertEqual(won(rings + [(1, 8, [0, 1])]), [0, 1, 1])
        self.assertEqual(won(rings + [(0, 9, [1])]), [0, 1, 1])
        self.assertEqual(won(rings + [(1, 8, [0])]), [0, 1, 0])

    def test_to_stay_or_to_go_on(self):
        self.assertEqual(won([(0, 1, [0, 1]), (1, 2, [0, 1])]), [0, 0])
        self.assertEqual(won([(1, 1, [0, 1]), (1, 2, [0, 1])]), [1, 1])
        self.assertEqual(won([(1, 1, [0, 1]), (0, 2, [0, 1])]), [1, 0])
        self.assertEqual(won([(1, 2, [0, 1]), (0, 3, [0, 1])]), [1, 1])

    def test_only_the_greatest_number_heard_again_and_again_counts(self):
        self.assertEqual(won([(0, 1, [1]), (1, 3, [2]), (0, 4, [0])]), [0, 0, 0])
        self.assertEqual(won([(0, 8, [1]), (1, 3, [2]), (0, 0, [1])]), [1, 1, 1])

    def test_one_great_ring(self):
        for many in range(1, 41):
            self.assertEqual(won(ring_game(many)), [(many - 1) % 2] * many)

    def test_ways_from_each_place_to_each(self):
        # Even places are 0's, odd ones 1's. Here each player can stay where it is.
        self.assertEqual(won(full_game(list(range(40)))), [0, 1] * 20)
        # Here 0 goes to 40, the greatest number, and 1 has even numbers only.
        self.assertEqual(won(full_game([place + 1 for place in range(40)])), [0] * 40)

    def test_games_seen_through(self):
        # 0 comes from 0 and 2 to the great number of 1.
        self.assertEqual(won(fine_game()), [0, 0, 0, 0, 0])
        # Now it is odd, and 1 wins by staying near it; 0 wins from 2 alone.
        game = fine_game()
        game[1] = (1, 9, [2, 0])
        game[2] = (0, 6, [2, 1])
        self.assertEqual(won(game), [1, 1, 0, 1, 1])

    def test_against_a_look_at_all_steps_of_both(self):
        for game in small_games():
            told = won(game)
            for player, place in itertools.product((0, 1), range(len(game))):
                self.assertEqual(
                    has_winning_steps(game, player, place), told[place] == player, game)

    def test_great_numbers(self):
        top = 10 ** 60
        self.assertEqual(won([(0, top, [1]), (0, top + 1, [0, 2]), (1, top - 1, [2])]), [1, 1, 1])
        self.assertEqual(won([(0, top, [1]), (0, top - 1, [0, 2]), (1, top - 1, [2])]), [0, 0, 1])

    def test_what_is_told_is_a_list_of_players(self):
        for game in (fine_game(), [], *drawn_games(5, 20, 9)):
            told = won(game)
            self.assertIs(type(told), list)
            self.assertEqual(len(told), len(game))
            for player in told:
                self.assertIs(type(player), int)
                self.assertIn(player, (0, 1))


class WinningSteps(unittest.TestCase):
    def assert_steps_for_winners_own_places_alone(self, game, winners, steps):
        self.assertIs(type(steps), list)
        self.assertEqual(len(steps), len(game))
        for (player, _, ways), who, step in zip(game, winners, steps):
            if player == who:
                self.assertIs(type(step), int)
                self.assertIn(step, ways)
            else:
                self.assertIsNone(step)

    def assert_no_way_out(self, game, winners, steps):
        for (_, _, ways), who, step in zip(game, winners, steps):
            for way in ways if step is None else [step]:
                self.assertEqual(winners[way], who)

    def assert_no_flaw(self, game, winners, steps):
        for player in (0, 1):
            self.assertIsNone(flaw(game, player, places_of(winners, player), steps))

    def assert_walks_are_won(self, game, winners, both, player):
        for place in places_of(winners, player):
            self.assertEqual(winner(game, both, place), player)
            ahead, ring = walk(game, both, place)
            self.assertEqual({winners[at] for at in ahead + ring}, {player})

    def test_no_place(self):
        self.assertEqual(winning_steps([]), [])

    def test_a_way_to_itself(self):
        for player, number in itertools.product((0, 1), range(6)):
            step = 0 if number % 2 == player else None
            self.assertEqual(winning_steps([(player, number, [0])]), [step])

    def test_the_only_steps_that_win(self):
        game = [(0, 2, [0]), (0, 1, [1]), (0, 9, [1, 0]), (1, 8, [0, 1]), (1, 4, [0, 2])]
        self.assertEqual(won(game), [0, 1, 0, 1, 0])
        self.assertEqual(winning_steps(game), [0, None, 0, 1, None])

    def test_to_win_is_more_than_to_stay_where_one_wins(self):
        game = [(0, 1, [0, 1]), (1, 2, [0])]
        self.assertEqual(won(game), [0, 0])
        self.assertEqual(winning_steps(game), [1, None])

    def test_the_way_that_comes_near_the_greatest_number(self):
        game = [(0, 1, [1]), (0, 1, [0, 2]), (0, 1, [1, 3]), (0, 2, [0])]
        self.assertEqual(winning_steps(game), [1, 2, 3, 0])
        game = [(1, 2, [1]), (1, 2, [0, 2]), (1, 2, [1, 3]), (1, 3, [0])]
        self.assertEqual(winning_steps(game), [1, 2, 3, 0])

    def test_the_greatest_number_need_not_be_heard_again_and_again(self):
        # 1 leads from 1 to 2 and stays there, though 0 has the greatest number.
        game = [(0, 4, [1]), (1, 0, [0, 2]), (1, 1, [2, 0])]
        self.assertEqual(won(game), [1, 1, 1])
        self.assertEqual(winning_steps(game), [None, 2, 2])

    def test_small_games_whatever_steps_the_other_one_has(self):
        for game in small_games():
            winners, steps = won(game), winning_steps(game)
            self.assert_steps_for_winners_own_places_alone(game, winners, steps)
            self.assert_no_way_out(game, winners, steps)
            self.assert_no_flaw(game, winners, steps)
            for player in (0, 1):
                own = own_steps(game, player, steps)
                for others in steps_of(game, 1 - player):
                    both = put_together(game, own, others)
                    self.assert_walks_are_won(game, winners, both, player)

    def test_games_of_up_to_40_places(self):
        draw = Draw(41)
        for game in (*great_games(), *drawn_games(42, 60, 40), *drawn_games(43, 60, 20, 4, 40)):
            winners, steps = won(game), winning_steps(game)
            self.assert_steps_for_winners_own_places_alone(game, winners, steps)
            self.assert_no_way_out(game, winners, steps)
            self.assert_no_flaw(game, winners, steps)
            for player in (0, 1):
                both = draw.steps(game)
                for place, step in own_steps(game, player, steps).items():
                    both[place] = step
                self.assert_walks_are_won(game, winners, both, player)

    def test_great_numbers(self):
        for small in drawn_games(44, 40, 6):
            game = [(player, number + 10 ** 60, ways) for player, number, ways in small]
            winners, steps = won(game), winning_steps(game)
            self.assertEqual(winners, won(small))
            self.assert_steps_for_winners_own_places_alone(game, winners, steps)
            self.assert_no_flaw(game, winners, steps)


class WhatChangesWhoWins(unittest.TestCase):
    """Point 5, over the whole program."""

    def some_games(self):
        yield from (fine_game(), [])
        yield from small_games()
        yield from great_games()
        yield from drawn_games(51, 60, 12, 4, 12)

    def test_players_exchanged_and_each_number_one_more(self):
        for game in self.some_games():
            told = won(game)
            self.assertEqual(won(turned(game)), [1 - player for player in told])
            self.assertEqual(won(turned(turned(game))), told)

    def test_only_the_numbers_one_more(self):
        self.assertEqual(won([(0, 1, [0, 1]), (0, 0, [1])]), [0, 0])
        self.assertEqual(won([(0, 2, [0, 1]), (0, 1, [1])]), [0, 1])

    def test_only_the_players_exchanged(self):
        self.assertEqual(won([(0, 1, [0, 1]), (0, 0, [1])]), [0, 0])
        self.assertEqual(won([(1, 1, [0, 1]), (1, 0, [1])]), [1, 0])

    def test_the_least_numbers(self):
        for game in self.some_games():
            self.assertEqual(won(lean(game)), won(game))

    def test_other_numbers_in_the_same_order_each_of_the_same_kind(self):
        draw = Draw(52)
        for game in self.some_games():
            others, last = {}, -1
            for number in sorted({row[1] for row in game}):
                # The next number of this kind, perhaps leaving some out.
                last += 1 if (last + 1) % 2 == number % 2 else 2
                last += 2 * draw.below(3)
                others[number] = last
            changed = [(player, others[number], ways) for player, number, ways in game]
            self.assertEqual(won(changed), won(game))

    def test_steps_without_a_flaw_stay_so_by_the_least_numbers(self):
        for game in drawn_games(53, 80, 10):
            for steps, least in ((winning_steps(game), lean(game)),
                                 (winning_steps(lean(game)), game)):
                winners = won(game)
                for player in (0, 1):
                    self.assertIsNone(flaw(least, player, places_of(winners, player), steps))

    def test_the_ways_of_each_place_in_another_order(self):
        draw = Draw(54)
        for game in self.some_games():
            mixed = [(player, number, draw.mixed(ways)) for player, number, ways in game]
            self.assertEqual(won(mixed), won(game))

    def test_the_places_under_other_numbers_of_their_own(self):
        draw = Draw(55)
        for game in self.some_games():
            new = draw.mixed(range(len(game)))
            moved = [None] * len(game)
            for place, (player, number, ways) in enumerate(game):
                moved[new[place]] = (player, number, [new[way] for way in ways])
            told = won(moved)
            self.assertEqual([told[new[place]] for place in range(len(game))], won(game))


if __name__ == "__main__":
    unittest.main()
