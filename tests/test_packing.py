"""greedy and anew; of two sides all games can have packets just if no team has more games than there are packets."""

import unittest

from support import NONE, Numbers, anew, even, games, give, gives, greedy, heard_twice, house, last
from support import packets_behind, take

ALL_OF_FOUR = ((0, 1), (0, 2), (0, 3), (1, 2), (1, 3), (2, 3))


class Greedy(unittest.TestCase):
    def check(self, before, told, behind):
        pairs = [(call[1], call[2]) for call in before if call[0] == 1]
        calls = before + [greedy()]
        self.assertEqual(last(*calls), told)
        self.assertEqual(packets_behind(calls, len(pairs), before[0][2]), behind)
        self.assertEqual(heard_twice(pairs, behind), set())
        self.assertEqual(last(*calls, greedy()), [0, told[1]])

    def test_no_game(self):
        self.check([house(3, 2)], [0, 0], [])

    def test_enough_packets(self):
        self.check([house(4, 3), *games(*ALL_OF_FOUR)], [6, 0], [0, 1, 2, 2, 1, 0])

    def test_not_enough_packets(self):
        self.check([house(4, 2), *games(*ALL_OF_FOUR)], [4, 2], [0, 1, NONE, NONE, 1, 0])
        self.check([house(4, 1), *games(*ALL_OF_FOUR)], [2, 4], [0, NONE, NONE, NONE, NONE, 0])

    def test_in_the_order_of_the_games(self):
        self.check([house(4, 2), *games((1, 2), (0, 1), (2, 3))], [3, 0], [0, 1, 1])
        self.check([house(4, 2), *games((0, 1), (1, 2), (3, 0), (2, 3))], [4, 0], [0, 1, 1, 0])

    def test_two_sides_with_enough_packets_for_anew_alone(self):
        self.check([house(6, 2), *games((0, 1), (2, 3), (2, 5), (0, 5))], [3, 1], [0, 0, 1, NONE])

    def test_games_that_have_packets_already(self):
        before = [house(3, 3), *games((0, 1), (0, 1), (0, 2)), give(1, 0)]
        self.check(before, [2, 0], [1, 0, 2])
        before = [house(4, 3), *games(*ALL_OF_FOUR), *gives(NONE, 2, 0, NONE, NONE, 1)]
        self.check(before, [3, 0], [1, 2, 0, 0, 2, 1])

    def test_all_have_packets(self):
        self.check([house(4, 3), *games((0, 1), (2, 3)), *gives(2, 1)], [0, 0], [2, 1])

    def test_behind_take(self):
        before = [house(4, 3), *games((0, 1), (1, 2)), *gives(0, 2), take(1)]
        self.check(before, [1, 0], [0, 1])


class Anew(unittest.TestCase):
    def check(self, before, behind):
        pairs = [(call[1], call[2]) for call in before if call[0] == 1]
        calls = before + [anew()]
        self.assertEqual(last(*calls), [1])
        self.assertEqual(packets_behind(calls, len(pairs), before[0][2]), behind)
        self.assertNotIn(NONE, behind)
        self.assertEqual(heard_twice(pairs, behind), set())

    def test_no_game(self):
        self.check([house(3, 1)], [])

    def test_the_least_that_neither_hears(self):
        self.check([house(4, 3), *games((0, 1), (2, 1), (2, 3))], [0, 1, 0])

    def test_packets_are_lost_first(self):
        self.check([house(4, 3), *games((0, 1), (2, 1), (2, 3)), *gives(2, 1, 2)], [0, 1, 0])
        self.check([house(4, 3), *games((0, 1), (2, 1), (2, 3)), *gives(NONE, NONE, 0)], [0, 1, 0])

    def test_an_exchange_from_the_second_team(self):
        self.check([house(6, 2), *games((0, 1), (2, 3), (2, 5), (0, 5))], [0, 1, 0, 1])
        self.check([house(6, 2), *games((0, 1), (2, 3), (2, 5), (5, 0))], [1, 0, 1, 0])

    def test_just_as_many_games_as_packets(self):
        self.check([house(2, 1), *games((0, 1))], [0])
        self.check([house(2, 3), *games((0, 1), (1, 0), (0, 1))], [0, 1, 2])
        self.check([house(2, 12), *games(*[(0, 1)] * 12)], list(range(12)))

    def test_more_games_than_packets(self):
        self.assertEqual(last(house(2, 2), *games((0, 1), (1, 0), (0, 1)), anew()), [0, 0])
        self.assertEqual(last(house(4, 2), *games((3, 0), (3, 1), (3, 2)), anew()), [0, 3])
        self.assertEqual(last(house(2, 12), *games(*[(0, 1)] * 13), anew()), [0, 0])

    def test_the_first_team_with_more(self):
        calls = [house(8, 1), *games((7, 6), (7, 5), (2, 3), (3, 4)), anew()]
        self.assertEqual(last(*calls), [0, 3])

    def test_more_games_than_packets_changes_nothing(self):
        before = [house(5, 2), *games((0, 1), (0, 2), (0, 3), (3, 4)), *gives(1, NONE, 0, 1)]
        self.assertEqual(last(*before, anew()), [0, 0])
        self.assertEqual(packets_behind(before + [anew()], 4, 2), [1, NONE, 0, 1])

    def test_not_of_two_sides(self):
        before = [house(5, 3), *games((2, 3), (3, 4), (4, 2), (0, 1)), *gives(2, 1, 0, 2)]
        self.assertEqual(last(*before, anew()), [-8])
        self.assertEqual(packets_behind(before + [anew()], 4, 3), [2, 1, 0, 2])

    def test_not_of_two_sides_is_looked_at_first(self):
        self.assertEqual(last(house(3, 1), *games((0, 1), (1, 2), (2, 0)), anew()), [-8])

    def test_two_sides_in_whatever_order(self):
        numbers = Numbers(3)
        for round_number in range(40):
            n = 2 + numbers.below(9)
            c = 1 + numbers.below(6)
            side = [numbers.below(2) for team in range(n)]
            pairs = []
            for k in range(120):
                a, b = numbers.below(n), numbers.below(n)
                fits = all(sum(t in pair for pair in pairs) < c for t in (a, b))
                if side[a] != side[b] and fits and len(pairs) < 30:
                    pairs.append((a, b))
            calls = [house(n, c), *games(*pairs), greedy(), anew()]
            self.assertEqual(last(*calls), [1])
            packets = packets_behind(calls, len(pairs), c)
            self.assertNotIn(NONE, packets)
            self.assertEqual(heard_twice(pairs, packets), set())
            self.assertNotEqual(last(*calls, even()), [-3])

    def test_one_game_too_many(self):
        numbers = Numbers(4)
        for c in range(1, 8):
            pairs = [(numbers.below(4), 4 + numbers.below(4)) for k in range(20)]
            counts = [sum(t in pair for pair in pairs) for t in range(8)]
            busy = [t for t in range(8) if counts[t] > c]
            expected = [0, busy[0]] if busy else [1]
            self.assertEqual(last(house(8, c), *games(*pairs), anew()), expected)
            self.assertEqual(last(house(8, max(counts)), *games(*pairs), anew()), [1])


if __name__ == "__main__":
    unittest.main()
