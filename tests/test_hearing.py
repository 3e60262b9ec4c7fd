"""hears, uses and games: what there is, told without changing it."""

import unittest

from support import NONE, all_games, anew, asked, even, game, games, give, gives, greedy, hears, house, last
from support import packets_behind, take, triples, turn, uses

PAIRS = ((0, 1), (2, 1), (2, 3), (3, 0), (0, 2))
RING = [house(5, 4), *games(*PAIRS), *gives(3, 1, 0, NONE, 2)]
FULL = [house(2, 12)] + [game(0, 1)] * 30


class Hears(unittest.TestCase):
    def check(self, before, rows):
        """For each team the packets it hears."""
        told = asked(*before, *[hears(t) for t in range(len(rows))])[-len(rows):]
        self.assertEqual(told, [[len(row)] + row for row in rows])

    def test_no_game(self):
        self.check([], [[], []])
        self.check([house(10, 12)], [[]] * 10)

    def test_games_without_packets(self):
        self.check([house(3, 2), *games((0, 1), (1, 2))], [[]] * 3)

    def test_rising_whatever_the_games_order(self):
        self.check(RING, [[2, 3], [1, 3], [0, 1, 2], [0], []])

    def test_all_packets(self):
        self.check(FULL + [greedy()], [list(range(12))] * 2)
        self.check([house(2, 1), game(1, 0), give(0, 0)], [[0], [0]])

    def test_packet_0_is_heard_and_none_is_not(self):
        self.check([house(3, 2), *games((0, 1), (0, 2)), give(1, 0)], [[0], [], [0]])

    def test_behind_calls_that_change(self):
        self.check(RING + [take(0)], [[2], [1], [0, 1, 2], [0], []])
        self.check(RING + [give(0, 0)], [[0, 2], [0, 1], [0, 1, 2], [0], []])
        self.check(RING + [turn(1, 3)], [[1, 2], [1, 3], [0, 2, 3], [0], []])
        self.check(RING + [house(5, 4)], [[]] * 5)

    def test_nothing_changes(self):
        told = asked(*RING, all_games(), hears(0), hears(2), all_games())
        self.assertEqual(told[-1], told[-4])


class Uses(unittest.TestCase):
    def test_no_game(self):
        self.assertEqual(last(uses()), [0])
        self.assertEqual(last(house(10, 12), uses()), [0] * 12)

    def test_games_without_packets(self):
        self.assertEqual(last(house(3, 2), *games((0, 1), (1, 2)), uses()), [0, 0])

    def test_some(self):
        self.assertEqual(last(*RING, uses()), [1, 1, 1, 1])
        self.assertEqual(last(*RING, take(2), uses()), [0, 1, 1, 1])
        before = [house(6, 3), *games((0, 1), (2, 3), (4, 5), (1, 2)), *gives(2, 2, 2, 0)]
        self.assertEqual(last(*before, uses()), [1, 0, 3])

    def test_one_packet(self):
        self.assertEqual(last(house(4, 1), *games((0, 1), (2, 3)), *gives(0, 0), uses()), [2])

    def test_all(self):
        self.assertEqual(last(*FULL, greedy(), uses()), [1] * 12)

    def test_nothing_changes(self):
        told = asked(*RING, all_games(), uses(), uses(), all_games())
        self.assertEqual(told[-1], told[-4])
        self.assertEqual(told[-2], told[-3])


class Games(unittest.TestCase):
    def test_none(self):
        self.assertEqual(last(all_games()), [0])
        self.assertEqual(last(house(10, 12), all_games()), [0])

    def test_teams_as_they_were_told(self):
        self.assertEqual(last(house(4, 3), game(3, 1), game(1, 3), all_games()), [2, 3, 1, -1, 1, 3, -1])

    def test_packets(self):
        self.assertEqual(last(*RING, all_games()), [5, 0, 1, 3, 2, 1, 1, 2, 3, 0, 3, 0, -1, 0, 2, 2])

    def test_thirty(self):
        told = last(*FULL, greedy(), all_games())
        self.assertEqual(triples(told), ([(0, 1)] * 30, list(range(12)) + [-1] * 18))

    def test_behind_calls_that_change(self):
        for more in ([], [take(1)], [give(3, 1)], [turn(0, 1)], [greedy()], [greedy(), even()], [anew()]):
            calls = RING + more
            pairs, packets = triples(last(*calls, all_games()))
            self.assertEqual(pairs, list(PAIRS))
            self.assertEqual(packets, packets_behind(calls, 5, 4))

    def test_behind_house(self):
        self.assertEqual(last(*RING, house(5, 4), all_games()), [0])

    def test_nothing_changes(self):
        self.assertEqual(len({tuple(row) for row in asked(*RING, *[all_games()] * 3)[-3:]}), 1)


if __name__ == "__main__":
    unittest.main()
