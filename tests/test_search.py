"""search: what is found, and how many steps that takes."""

import unittest

from support import all_games, asked, game, games, gives, greedy, hears, house, last, search, sides, told_pairs, uses

PATH = [house(3, 1), *games((0, 1), (1, 2))]
TRIANGLE = [house(3, 1), *games((0, 1), (1, 2), (2, 0))]
# Here the packets that come first for two games must be given up again.
BACK = [house(6, 1), *games((0, 1), (2, 3), (2, 5), (0, 5))]


class Steps(unittest.TestCase):
    def check(self, before, k, steps, told):
        """With so many steps, and with all of them, that is told; with one step fewer they are used up."""
        self.assertEqual(last(*before, search(k, steps)), told)
        self.assertEqual(last(*before, search(k, steps + 1)), told)
        self.assertEqual(last(*before, search(k, 2000)), told)
        for fewer in range(steps):
            self.assertEqual(last(*before, search(k, fewer)), [2])

    def test_no_game_takes_no_step(self):
        for before in ([], [house(10, 12)], TRIANGLE + [house(3, 1)]):
            for k in (1, 2, 12):
                self.check(before, k, 0, [1])

    def test_one_game(self):
        for k in (1, 2, 12):
            self.check([game(0, 1)], k, 1, [1, 0])
            self.check([house(10, 12), game(9, 3)], k, 1, [1, 0])

    def test_a_packet_that_is_heard_is_a_step_too(self):
        self.check(PATH, 2, 3, [1, 0, 1])
        self.check(TRIANGLE, 3, 6, [1, 0, 1, 2])
        self.check(TRIANGLE, 12, 6, [1, 0, 1, 2])

    def test_there_is_none(self):
        self.check(PATH, 1, 2, [0])
        self.check(TRIANGLE, 1, 2, [0])
        self.check(TRIANGLE, 2, 10, [0])

    def test_back_to_a_game_ahead(self):
        self.check(BACK, 2, 10, [1, 0, 1, 0, 1])
        self.check(BACK, 3, 7, [1, 0, 0, 1, 2])

    def test_games_without_a_team_in_common(self):
        self.check([house(10, 1), *games((0, 1), (2, 3), (4, 5), (6, 7), (8, 9))], 1, 5, [1, 0, 0, 0, 0, 0])

    def test_the_same_two_teams(self):
        self.check([game(0, 1), game(1, 0)], 2, 3, [1, 0, 1])
        self.check([game(0, 1)] * 12, 12, 78, [1, *range(12)])

    def test_as_many_games_as_there_can_be(self):
        pairs = [(2 * k, 2 * k + 1) for k in range(5)] * 6
        row = [packet for packet in range(6) for k in range(5)]
        self.check([house(10, 12), *games(*pairs)], 6, 5 * (1 + 2 + 3 + 4 + 5 + 6), [1, *row])

    def test_the_steps_that_can_be_told_at_most(self):
        too_many = [house(2, 12)] + [game(0, 1)] * 13
        self.assertEqual(asked(*too_many, search(12, 2000), search(12, 0))[-2:], [[2], [2]])
        self.assertEqual(last(*[game(0, 1)] * 30, search(1, 2000)), [0])


class Apart(unittest.TestCase):
    def test_more_packets_than_there_are(self):
        self.assertEqual(last(house(2, 1), game(0, 1), game(0, 1), search(2, 100)), [1, 0, 1])
        self.assertEqual(last(house(2, 1), *[game(0, 1)] * 12, search(12, 100)), [1, *range(12)])

    def test_fewer_packets_than_there_are(self):
        self.assertEqual(last(house(3, 12), *games((0, 1), (1, 2)), search(1, 100)), [0])

    def test_packets_that_games_have_do_not_matter(self):
        before = [house(4, 6), *games((0, 1), (1, 2), (2, 3), (3, 0))]
        told = last(*before, search(2, 50))
        self.assertEqual(told, [1, 0, 1, 0, 1])
        for packets in ((5, 4, 3, 2), (1, 0, 1, 0), (-1, 0, -1, 3)):
            self.assertEqual(last(*before, *gives(*packets), search(2, 50)), told)

    def test_nothing_changes(self):
        before = [house(4, 3), *games((0, 1), (1, 2), (2, 3)), *gives(2, -1, 1)]
        look = [all_games(), uses(), hears(1), sides(), told_pairs(), greedy(), all_games()]
        told = asked(*before, look)[len(before):]
        for k, steps in ((3, 100), (1, 100), (3, 2), (3, 0), (13, 1)):
            self.assertEqual(asked(*before, search(k, steps), look)[len(before) + 1:], told)

    def test_twice_in_a_row(self):
        self.assertEqual(asked(*BACK, search(2, 9), search(2, 10), search(2, 9), search(2, 10))[-4:],
                         [[2], [1, 0, 1, 0, 1]] * 2)


if __name__ == "__main__":
    unittest.main()
