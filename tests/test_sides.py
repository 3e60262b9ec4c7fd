"""sides: the told sides, and the told odd ring."""

import unittest

from support import asked, games, give, house, last, sides

ROWS_OF_RINGS = ((0, 1, 2), (0, 3, 1, 4, 2), (6, 0, 5, 1, 4, 2, 3), (8, 0, 7, 1, 6, 2, 5, 3, 4))


def ring_pairs(row):
    return [(row[k - 1], row[k]) for k in range(len(row))]


class TwoSides(unittest.TestCase):
    def check(self, n, pairs, row):
        self.assertEqual(last(house(n, 1), *games(*pairs), sides()), [1] + row)

    def test_teams_without_games(self):
        self.check(2, [], [0, 0])
        self.check(10, [], [0] * 10)
        self.check(5, [(1, 3)], [0, 0, 0, 1, 0])

    def test_the_least_team_has_0(self):
        self.check(2, [(1, 0)], [0, 1])
        self.check(4, [(3, 2), (2, 1)], [0, 0, 1, 0])

    def test_several_sets_that_hang_together(self):
        self.check(8, [(7, 0), (5, 1), (1, 6), (3, 2)], [0, 0, 0, 1, 0, 1, 1, 1])

    def test_sets_that_come_together_late(self):
        self.check(6, [(4, 5), (0, 1), (2, 3), (1, 5), (3, 4)], [0, 1, 1, 0, 1, 0])

    def test_the_same_two_teams_more_than_once(self):
        self.check(3, [(0, 2), (2, 0), (0, 2)], [0, 0, 1])

    def test_even_rings(self):
        for size in (4, 6, 8, 10):
            self.check(10, ring_pairs(range(size)), [k % 2 if k < size else 0 for k in range(10)])

    def test_packets_do_not_matter(self):
        calls = [house(3, 2), *games((0, 1), (1, 2))]
        self.assertEqual(last(*calls, give(0, 0), give(1, 1), sides()), [1, 0, 1, 0])

    def test_nothing_changes(self):
        calls = [house(4, 2), *games((0, 1), (1, 2))]
        self.assertEqual(asked(*calls, sides(), sides())[-2:], [[1, 0, 1, 0, 0]] * 2)


class OddRings(unittest.TestCase):
    def check(self, n, pairs, row):
        self.assertEqual(last(house(n, 1), *games(*pairs), sides()), [0, len(row)] + row)

    def test_one_ring_of_each_size(self):
        self.check(9, ring_pairs(ROWS_OF_RINGS[0]), [0, 1, 2])
        self.check(9, ring_pairs(ROWS_OF_RINGS[1]), [0, 2, 4, 1, 3])
        self.check(9, ring_pairs(ROWS_OF_RINGS[2]), [0, 5, 1, 4, 2, 3, 6])
        self.check(9, ring_pairs(ROWS_OF_RINGS[3]), [0, 7, 1, 6, 2, 5, 3, 4, 8])

    def test_from_any_of_its_teams_on_and_either_way_round(self):
        for row in ROWS_OF_RINGS:
            told = last(house(10, 1), *games(*ring_pairs(row)), sides())
            for turn in range(len(row)):
                turned = row[turn:] + row[:turn]
                self.assertEqual(last(house(10, 1), *games(*ring_pairs(turned)), sides()), told)
                self.assertEqual(last(house(10, 1), *games(*ring_pairs(turned[::-1])), sides()), told)

    def test_as_few_teams_as_there_are(self):
        self.check(3, [(2, 1), (1, 0), (0, 2)], [0, 1, 2])

    def test_the_ring_need_not_hold_team_0(self):
        self.check(10, ring_pairs((9, 3, 7)) + [(0, 3)], [3, 7, 9])

    def test_a_set_of_two_sides_beside_it(self):
        self.check(7, [(0, 1), (1, 2)] + ring_pairs((6, 5, 4)), [4, 5, 6])

    def test_the_same_two_teams_more_than_once(self):
        self.check(5, [(1, 0), (0, 1)] + ring_pairs((1, 4, 3)) + [(3, 4), (4, 1)], [1, 3, 4])

    def test_fewer_teams_go_before_lesser_teams(self):
        self.check(8, ring_pairs((0, 1, 2, 3, 4)) + ring_pairs((5, 6, 7)), [5, 6, 7])
        self.check(10, ring_pairs((0, 1, 2, 3, 4, 5, 6)) + [(2, 9), (9, 7), (7, 8), (8, 3)], [2, 3, 8, 7, 9])

    def test_the_first_of_several_shortest(self):
        self.check(10, ring_pairs((1, 3, 4)) + ring_pairs((1, 2, 9)), [1, 2, 9])
        self.check(6, ring_pairs((3, 4, 5)) + ring_pairs((0, 4, 5)), [0, 4, 5])
        self.check(6, ring_pairs((0, 1, 4, 2, 3)) + [(1, 5), (5, 2)], [0, 1, 4, 2, 3])

    def test_all_against_all(self):
        pairs = [(a, b) for a in range(8) for b in range(a)]
        self.check(10, pairs, [0, 1, 2])

    def test_the_least_team_next_need_not_lead_round(self):
        # 0 plays 1 too, but no ring of five goes through both.
        self.check(9, ring_pairs((0, 8, 2, 7, 3)) + [(0, 1), (1, 4)], [0, 3, 7, 2, 8])

    def test_a_ring_with_a_string_across(self):
        self.check(9, ring_pairs(range(9)) + [(0, 3)], [0, 3, 4, 5, 6, 7, 8])
        self.check(9, ring_pairs(range(9)) + [(0, 4)], [0, 1, 2, 3, 4])


if __name__ == "__main__":
    unittest.main()
