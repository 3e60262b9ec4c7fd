"""round: all against all, in rounds."""

import unittest

from support import all_games, asked, bar, games, house, last, met, round_of


class Rounds(unittest.TestCase):
    def check(self, n, r, told):
        self.assertEqual(last(house(n, 1), round_of(r)), told)

    def test_two_teams(self):
        self.check(2, 0, [0, 1, -1])
        self.assertEqual(last(round_of(0)), [0, 1, -1])

    def test_three_teams(self):
        self.check(3, 0, [1, 2, 0])
        self.check(3, 1, [0, 2, 1])
        self.check(3, 2, [0, 1, 2])

    def test_four_teams(self):
        self.check(4, 0, [0, 3, 1, 2, -1])
        self.check(4, 1, [0, 2, 1, 3, -1])
        self.check(4, 2, [0, 1, 2, 3, -1])

    def test_five_and_six_teams(self):
        self.check(5, 0, [1, 4, 2, 3, 0])
        self.check(6, 0, [0, 5, 1, 4, 2, 3, -1])
        self.check(5, 3, [0, 1, 2, 4, 3])
        self.check(6, 3, [0, 1, 2, 4, 3, 5, -1])

    def test_nine_and_ten_teams(self):
        self.check(9, 8, [0, 7, 1, 6, 2, 5, 3, 4, 8])
        self.check(10, 8, [0, 7, 1, 6, 2, 5, 3, 4, 8, 9, -1])
        self.check(9, 4, [0, 8, 1, 7, 2, 6, 3, 5, 4])

    def test_the_last_round_and_the_one_behind_it(self):
        for n in range(2, 11):
            last_one = n + n % 2 - 2
            self.assertNotIn(last(house(n, 1), round_of(last_one)), ([-1], [-4]))
            for r in range(last_one + 1, 9):
                self.check(n, r, [-4])
            self.check(n, 9, [-1])
            self.check(n, -1, [-1])

    def test_games_and_bars_do_not_matter(self):
        before = [house(4, 2), *games((0, 3), (1, 2)), bar(0, 3, 1)]
        self.assertEqual(last(*before, round_of(0)), [0, 3, 1, 2, -1])

    def test_nothing_changes(self):
        before = [house(4, 2), *games((0, 1))]
        self.assertEqual(asked(*before, round_of(0), all_games(), met(0, 3))[-2:], [[1, 0, 1, -1], [0, 1]])

    def test_each_two_teams_meet_just_once(self):
        for n in range(2, 11):
            m = n + n % 2
            seen = []
            resting = []
            for told in asked(house(n, 1), *[round_of(r) for r in range(m - 1)])[1:]:
                both = list(zip(told[:-1:2], told[1:-1:2]))
                self.assertEqual(len(told), 2 * (n // 2) + 1)
                self.assertEqual(both, sorted(both))
                self.assertTrue(all(a < b for a, b in both))
                self.assertEqual(sorted(told[:-1] + told[-1:] * (n % 2)), list(range(n)))
                seen += both
                resting.append(told[-1])
            self.assertEqual(sorted(seen), [(a, b) for a in range(n) for b in range(a + 1, n)])
            self.assertEqual(sorted(resting), list(range(n)) if n % 2 else [-1] * (m - 1))


if __name__ == "__main__":
    unittest.main()
