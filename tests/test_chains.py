"""give, take, chain, turn and even: what games have behind them."""

import unittest

from support import NONE, Numbers, asked, chain, even, games, give, gives, greedy, heard_twice, house, last
from support import packets_behind, take, turn

PATH_PAIRS = ((0, 1), (1, 2), (2, 3), (3, 4), (4, 5))
PATH = [house(6, 3), *games(*PATH_PAIRS), *gives(0, 1, 0, 1, 2)]
RING_PAIRS = ((0, 1), (1, 2), (2, 3), (3, 0), (0, 2))
RING = [house(4, 3), *games(*RING_PAIRS), *gives(0, 1, 0, 1, 2)]


class GiveAndTake(unittest.TestCase):
    START = [house(4, 3), *games((0, 1), (1, 2), (2, 3))]

    def test_a_new_game_has_no_packet(self):
        self.assertEqual(packets_behind(self.START, 3, 3), [NONE] * 3)

    def test_give(self):
        self.assertEqual(packets_behind(self.START + gives(2, 0, 2), 3, 3), [2, 0, 2])

    def test_give_in_the_place_of_another(self):
        calls = self.START + [give(0, 2), give(0, 1)]
        self.assertEqual(last(*calls), [0])
        self.assertEqual(packets_behind(calls, 3, 3), [1, NONE, NONE])
        self.assertEqual(last(*calls, give(1, 2)), [0])

    def test_give_what_it_has(self):
        calls = self.START + [give(0, 2), give(0, 2)]
        self.assertEqual(last(*calls), [0])
        self.assertEqual(packets_behind(calls, 3, 3), [2, NONE, NONE])

    def test_take(self):
        calls = self.START + gives(2, 0, 2) + [take(0)]
        self.assertEqual(last(*calls), [0])
        self.assertEqual(packets_behind(calls, 3, 3), [NONE, 0, 2])

    def test_take_from_a_game_without_one(self):
        calls = self.START + [give(0, 1), take(1), take(1)]
        self.assertEqual(asked(*calls)[-2:], [[0], [0]])
        self.assertEqual(packets_behind(calls, 3, 3), [1, NONE, NONE])

    def test_what_is_taken_is_not_heard(self):
        self.assertEqual(asked(*self.START, give(0, 1), give(1, 1), take(0), give(1, 1))[-3:], [[-6], [0], [0]])


class Chains(unittest.TestCase):
    def check(self, before, g, p, held, behind):
        """chain tells these games, turn as many; then the games have these packets."""
        pairs = [(call[1], call[2]) for call in before if call[0] == 1]
        self.assertEqual(last(*before, chain(g, p)), [len(held)] + held)
        turned = before + [turn(g, p)]
        self.assertEqual(last(*turned), [len(held)])
        self.assertEqual(packets_behind(turned, len(pairs), before[0][2]), behind)
        self.assertEqual(heard_twice(pairs, behind), set())

    def test_one_game_alone(self):
        self.check(PATH, 0, 2, [0], [2, 1, 0, 1, 2])
        self.check(PATH, 4, 0, [4], [0, 1, 0, 1, 0])
        self.check([house(2, 2), *games((1, 0)), give(0, 1)], 0, 0, [0], [0])

    def test_a_path(self):
        for g, p in ((0, 1), (1, 0), (2, 1), (3, 0)):
            self.check(PATH, g, p, [0, 1, 2, 3], [1, 0, 1, 0, 2])
        self.check(PATH, 3, 2, [3, 4], [0, 1, 0, 2, 1])
        self.check(PATH, 4, 1, [3, 4], [0, 1, 0, 2, 1])

    def test_a_ring(self):
        for g, p in ((0, 1), (1, 0), (2, 1), (3, 0)):
            self.check(RING, g, p, [0, 1, 2, 3], [1, 0, 1, 0, 2])
        self.check(RING, 4, 0, [0, 2, 4], [2, 1, 2, 1, 0])

    def test_a_ring_of_two_games(self):
        before = [house(2, 3), *games((0, 1), (1, 0), (0, 1)), *gives(2, 0, 1)]
        self.check(before, 0, 1, [0, 2], [1, 0, 2])
        self.check(before, 1, 2, [0, 1], [0, 2, 1])

    def test_games_of_the_packets_elsewhere_stay(self):
        before = [house(7, 2), *games((0, 1), (3, 4), (1, 2), (4, 5)), *gives(0, 0, 1, 1)]
        self.check(before, 2, 0, [0, 2], [1, 0, 0, 1])
        self.check(before, 1, 1, [1, 3], [0, 1, 1, 0])

    def test_games_without_packet_hold_nothing_together(self):
        before = [house(5, 2), *games((0, 1), (1, 2), (2, 3)), *gives(0, NONE, 1)]
        self.check(before, 0, 1, [0], [1, NONE, 1])

    def test_games_of_a_third_packet_hold_nothing_together(self):
        before = [house(5, 3), *games((0, 1), (1, 2), (2, 3)), *gives(0, 2, 1)]
        self.check(before, 0, 1, [0], [1, 2, 1])

    def test_games_are_told_rising_whichever_is_asked(self):
        pairs = ((4, 5), (2, 3), (0, 1), (3, 4), (1, 2))
        before = [house(6, 2), *games(*pairs), *gives(0, 0, 0, 1, 1)]
        for g in range(5):
            self.check(before, g, 1 if g < 3 else 0, [0, 1, 2, 3, 4], [1, 1, 1, 0, 0])

    def test_chain_changes_nothing(self):
        self.assertEqual(packets_behind(PATH + [chain(0, 1), chain(4, 1)], 5, 3), [0, 1, 0, 1, 2])

    def test_turn_twice_is_as_before(self):
        self.assertEqual(packets_behind(PATH + [turn(2, 1), turn(2, 0)], 5, 3), [0, 1, 0, 1, 2])

    def test_no_team_hears_a_packet_twice_behind_many_turns(self):
        numbers = Numbers(11)
        pairs = [(a, b) for a in range(5) for b in range(a)]
        calls = [house(5, 5), *games(*pairs), greedy(), *[turn(numbers.below(10), numbers.below(5)) for k in range(60)]]
        for end in range(12, len(calls), 12):
            packets = packets_behind(calls[:end], 10, 5)
            self.assertEqual(heard_twice(pairs, packets), set())


class Even(unittest.TestCase):
    def check(self, before, times, behind):
        c = before[0][2]
        pairs = [(call[1], call[2]) for call in before if call[0] == 1]
        calls = before + [even()]
        self.assertEqual(last(*calls), [times])
        self.assertEqual(packets_behind(calls, len(pairs), c), behind)
        self.assertEqual(heard_twice(pairs, behind), set())
        uses = [behind.count(p) for p in range(c)]
        self.assertLessEqual(max(uses) - min(uses), 1)
        self.assertEqual(last(*calls, even()), [0])

    def test_no_game(self):
        self.assertEqual(last(even()), [0])
        self.assertEqual(last(house(10, 12), even()), [0])

    def test_one_packet(self):
        self.check([house(4, 1), *games((0, 1), (2, 3)), *gives(0, 0)], 0, [0, 0])

    def test_one_more_is_even(self):
        self.check([house(6, 2), *games((0, 1), (2, 3), (4, 5)), *gives(1, 0, 1)], 0, [1, 0, 1])

    def test_two_more_is_not(self):
        self.check([house(4, 2), *games((0, 1), (2, 3)), *gives(1, 1)], 1, [0, 1])

    def test_the_least_of_those_with_the_fewest(self):
        before = [house(8, 3), *games((0, 1), (2, 3), (4, 5), (6, 7)), *gives(0, 0, 0, 0)]
        self.check(before, 2, [1, 2, 0, 0])

    def test_the_least_of_those_with_the_most(self):
        pairs = ((0, 1), (2, 3), (4, 5), (6, 7), (0, 3), (2, 5))
        before = [house(8, 3), *games(*pairs), *gives(2, 2, 2, 1, 1, 1)]
        self.check(before, 2, [0, 2, 2, 0, 1, 1])

    def test_the_first_game_may_have_the_rarer_packet(self):
        before = [house(6, 2), *games((0, 1), (4, 5), (1, 2), (0, 3)), *gives(1, 0, 0, 0)]
        self.check(before, 1, [0, 0, 1, 1])

    def test_chains_with_as_many_of_both_are_passed_over(self):
        pairs = ((0, 1), (1, 2), (3, 4), (5, 6), (7, 8))
        before = [house(9, 2), *games(*pairs), *gives(0, 1, 0, 0, 0)]
        self.check(before, 1, [0, 1, 1, 0, 0])

    def test_chains_with_more_of_the_rarer_are_passed_over(self):
        pairs = ((0, 1), (1, 2), (2, 3), (4, 5), (6, 7), (8, 9), (4, 6), (5, 8))
        before = [house(10, 3), *games(*pairs), *gives(1, 0, 1, 0, 0, 0, 2, 2)]
        self.check(before, 1, [1, 0, 1, 1, 0, 0, 2, 2])

    def test_many_games(self):
        numbers = Numbers(5)
        for n, c in ((10, 12), (9, 12), (8, 11), (6, 11), (4, 12)):
            pairs = []
            # With at most half of the packets' number of games a team, greedy leaves no game without a packet.
            for k in range(200):
                a, b = numbers.below(n), numbers.below(n)
                fits = all(sum(t in pair for pair in pairs) < c // 2 for t in (a, b))
                if a != b and fits and len(pairs) < 14:
                    pairs.append((a, b))
            calls = [house(n, c), *games(*pairs), greedy(), even()]
            self.assertEqual(asked(*calls)[-2], [len(pairs), 0])
            packets = packets_behind(calls, len(pairs), c)
            uses = [packets.count(p) for p in range(c)]
            self.assertEqual(sum(uses), len(pairs))
            self.assertLessEqual(max(uses) - min(uses), 1)
            self.assertEqual(heard_twice(pairs, packets), set())


if __name__ == "__main__":
    unittest.main()
