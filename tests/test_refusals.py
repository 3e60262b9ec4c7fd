"""Each refusal alone, where two of them would fit, and that behind one nothing has changed."""

import unittest

from support import FAR, all_games, anew, asked, bar, chain, even, game, games, give, gives, greedy, hears, house, last
from support import line, met, pieces, round_of, search, sides, take, told_pairs, told_set, turn, uses

# Four teams, three packets, five games, of which the last one has no packet, and a barred pair.
STATE = [house(4, 3), *games((0, 1), (1, 2), (2, 3), (3, 0), (0, 2)), *gives(0, 1, 0, 1), bar(1, 3, 1)]
# What can be seen of that state, with one more game behind it.
LOOK = [
    all_games(), uses(), hears(0), hears(2), met(1, 3), met(0, 1), told_pairs(), told_set(), pieces(),
    *[chain(g, p) for g in range(6) for p in range(4)], sides(), anew(), even(), game(3, 1), greedy(),
    *[chain(g, p) for g in range(6) for p in range(4)], game(4, 0), take(4), even(), all_games(), search(4, 100)]

FULL = [house(4, 3)] + [game(0, 1)] * 30


class Refusals(unittest.TestCase):
    def check(self, call, number, before=STATE):
        told = asked(*before, call, LOOK)
        at = len(asked(*before))
        self.assertEqual(told[at], [number], call)
        self.assertEqual(told[at + 1:], asked(*before, LOOK)[at:], f"{call} has changed something")

    def test_house_out_of_range(self):
        for n in (1, 0, -1, 11, 12, FAR, -FAR):
            self.check(house(n, 3), -1)
        for c in (0, -1, 13, FAR, -FAR):
            self.check(house(4, c), -1)
        self.check(house(11, 0), -1)
        self.check(house(-FAR, FAR), -1)

    def test_house_at_the_edges(self):
        for n in (2, 10):
            for c in (1, 12):
                self.assertEqual(last(house(n, c)), [n])

    def test_game_out_of_range(self):
        for team in (-1, 10, 11, FAR, -FAR):
            self.check(game(team, 0), -1)
            self.check(game(0, team), -1)

    def test_game_no_such_team(self):
        for team in (4, 9):
            self.check(game(team, 0), -4)
            self.check(game(0, team), -4)

    def test_game_alike(self):
        for team in range(4):
            self.check(game(team, team), -5)

    def test_game_too_many(self):
        self.assertEqual(asked(*FULL)[1:], [[g] for g in range(30)])
        self.check(game(0, 1), -7, FULL)
        self.check(game(3, 2), -7, FULL)

    def test_game_order(self):
        for team in (-1, 10, FAR, -FAR):
            self.check(game(team, 4), -1)
            self.check(game(4, team), -1)
            self.check(game(team, team), -1)
            self.check(game(team, 0), -1, FULL)
        self.check(game(4, 4), -4)
        self.check(game(0, 4), -4, FULL)
        self.check(game(4, 4), -4, FULL)
        self.check(game(2, 2), -5, FULL)

    def test_give_out_of_range(self):
        for g in (-1, 30, FAR, -FAR):
            self.check(give(g, 0), -1)
        for p in (-1, 12, FAR, -FAR):
            self.check(give(4, p), -1)

    def test_give_no_such(self):
        for g in (5, 29):
            self.check(give(g, 2), -4)
        for p in (3, 11):
            self.check(give(4, p), -4)
        self.check(give(5, 3), -4)

    def test_give_heard_already(self):
        # Game 4 is between 0 and 2; both hear 0 and 1.
        self.check(give(4, 0), -6)
        self.check(give(4, 1), -6)
        # Game 0 has a packet itself; its second team hears 1 by game 1, its first one by game 3.
        self.check(give(0, 1), -6)

    def test_give_heard_by_one_team_alone(self):
        before = [house(4, 3), *games((0, 1), (1, 2), (3, 0)), give(0, 2)]
        self.check(give(1, 2), -6, before)
        self.check(give(2, 2), -6, before)

    def test_give_order(self):
        self.check(give(30, 3), -1)
        self.check(give(5, 12), -1)
        self.check(give(-FAR, 3), -1)
        self.check(give(5, FAR), -1)
        self.check(give(0, -1), -1)

    def test_take(self):
        for g in (-1, 30, FAR, -FAR):
            self.check(take(g), -1)
        for g in (5, 29):
            self.check(take(g), -4)

    def test_chain_and_turn_out_of_range(self):
        for call in (chain, turn):
            for g in (-1, 30, FAR, -FAR):
                self.check(call(g, 1), -1)
            for p in (-1, 12, FAR, -FAR):
                self.check(call(0, p), -1)

    def test_chain_and_turn_no_such(self):
        for call in (chain, turn):
            for g in (5, 29):
                self.check(call(g, 1), -4)
            for p in (3, 11):
                self.check(call(0, p), -4)

    def test_chain_and_turn_without_packet(self):
        for call in (chain, turn):
            for p in range(3):
                self.check(call(4, p), -3)

    def test_chain_and_turn_alike(self):
        for call in (chain, turn):
            for g, p in enumerate((0, 1, 0, 1)):
                self.check(call(g, p), -5)

    def test_chain_and_turn_order(self):
        for call in (chain, turn):
            self.check(call(30, 3), -1)
            self.check(call(5, 12), -1)
            self.check(call(5, -1), -1)
            self.check(call(4, 12), -1)
            self.check(call(4, -FAR), -1)
            self.check(call(4, 3), -4)
            self.check(call(5, 3), -4)

    def test_anew_not_of_two_sides(self):
        self.check(anew(), -8)

    def test_anew_not_of_two_sides_and_too_many_games(self):
        self.check(anew(), -8, [house(4, 1), *games((0, 1), (1, 2), (2, 0), (0, 3)), give(0, 0)])

    def test_even_without_packet(self):
        self.check(even(), -3)
        self.check(even(), -3, [house(4, 3), game(0, 1)])
        self.check(even(), -3, [house(9, 3), *games((1, 2), (3, 4), (5, 6), (7, 8)), *gives(0, 0, -1, 0)])

    def test_hears(self):
        for team in (-1, 10, 11, FAR, -FAR):
            self.check(hears(team), -1)
        for team in (4, 9):
            self.check(hears(team), -4)

    def test_search(self):
        for k in (0, -1, 13, FAR, -FAR):
            self.check(search(k, 10), -1)
            self.check(search(k, 10), -1, [])
        for s in (-1, 2001, FAR, -FAR):
            self.check(search(3, s), -1)
            self.check(search(3, s), -1, [])
        self.check(search(0, -1), -1)

    def test_search_at_the_edges(self):
        self.assertEqual(last(*STATE, search(1, 2000)), [0])
        self.assertEqual(last(*STATE, search(12, 0)), [2])
        self.assertEqual(last(*STATE, search(12, 2000)), [1, 0, 1, 0, 1, 2])

    def test_bar_out_of_range(self):
        for team in (-1, 10, 11, FAR, -FAR):
            self.check(bar(team, 0, 1), -1)
            self.check(bar(0, team, 1), -1)
        for k in (-1, 2, FAR, -FAR):
            self.check(bar(0, 1, k), -1)
            self.check(bar(1, 3, k), -1)

    def test_bar_no_such_team(self):
        for team in (4, 9):
            self.check(bar(team, 0, 1), -4)
            self.check(bar(0, team, 0), -4)

    def test_bar_alike(self):
        for team in range(4):
            self.check(bar(team, team, 1), -5)
            self.check(bar(team, team, 0), -5)

    def test_bar_order(self):
        self.check(bar(10, 4, 1), -1)
        self.check(bar(4, 10, 1), -1)
        self.check(bar(4, 0, 2), -1)
        self.check(bar(4, 4, 2), -1)
        self.check(bar(1, 1, 2), -1)
        self.check(bar(10, 10, 0), -1)
        self.check(bar(4, 4, 0), -4)

    def test_pieces(self):
        for row in ((4,), (0, 4), (1, 0), (2, 2), (-1,), (0, FAR), (-FAR,), (10,), (0, 1, 2, 3, 0)):
            self.check(pieces(*row), -2)

    def test_round(self):
        for r in (-1, 9, 10, FAR, -FAR):
            self.check(round_of(r), -1)
        for r in range(3, 9):
            self.check(round_of(r), -4)

    def test_met_out_of_range(self):
        for team in (-1, 10, 11, FAR, -FAR):
            self.check(met(team, 0), -1)
            self.check(met(0, team), -1)

    def test_met_no_such_team(self):
        for team in (4, 9):
            self.check(met(team, 0), -4)
            self.check(met(0, team), -4)

    def test_met_alike(self):
        for team in range(4):
            self.check(met(team, team), -5)

    def test_met_order(self):
        self.check(met(10, 4), -1)
        self.check(met(4, 10), -1)
        self.check(met(-1, -1), -1)
        self.check(met(4, 4), -4)

    def test_several_refusals_in_a_row(self):
        refused = [house(1, 1), game(9, 9), give(29, 0), take(29), chain(0, 0), turn(4, 0), anew(), even(), hears(7),
                   search(0, 0), bar(1, 3, 2), pieces(1, 1), round_of(3), met(2, 2)]
        numbers = [-1, -4, -4, -4, -5, -3, -8, -3, -4, -1, -1, -2, -4, -5]
        told = asked(*STATE, refused, LOOK)
        at = len(asked(*STATE))
        self.assertEqual(told[at:at + 14], [[number] for number in numbers])
        self.assertEqual(told[at + 14:], asked(*STATE, LOOK)[at:])
        self.assertLess(len(line(*STATE, refused, LOOK)), 17000)


if __name__ == "__main__":
    unittest.main()
