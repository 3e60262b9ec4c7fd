"""bar, met, pairs, set and pieces: who may be paired, the told pairing, and why there can't be more pairs."""

import unittest
from itertools import combinations

from model import Model
from support import FAR, Numbers, all_games, asked, bar, bars, bars_but, game, games, give, house, last, met, pieces
from support import take, told_pairs, told_set

# Two teams, 5 and 2, with two teams each that may be paired with them alone, and two teams between them.
TWO_KNOTS = ((5, 0), (5, 1), (5, 3), (3, 4), (4, 2), (2, 6), (2, 7))


class BarAndMet(unittest.TestCase):
    def test_two_teams_without_a_game(self):
        self.assertEqual(asked(met(0, 1), met(1, 0)), [[0, 1], [0, 1]])

    def test_games_together(self):
        before = [house(4, 2), *games((0, 1), (1, 0), (2, 1), (0, 1))]
        told = asked(*before, met(0, 1), met(1, 0), met(1, 2), met(0, 2), met(3, 0))
        self.assertEqual(told[-5:], [[3, 0], [3, 0], [1, 0], [0, 1], [0, 1]])

    def test_packets_do_not_matter(self):
        before = [house(3, 2), game(0, 1)]
        self.assertEqual(asked(*before, give(0, 1), met(0, 1), take(0), met(0, 1))[-3:], [[1, 0], [0], [1, 0]])

    def test_barred(self):
        told = asked(house(4, 1), bar(2, 0, 1), met(0, 2), met(2, 0), met(0, 1))
        self.assertEqual(told[1:], [[0], [0, 0], [0, 0], [0, 1]])

    def test_barred_twice_and_freed_once(self):
        told = asked(house(4, 1), bar(2, 0, 1), bar(0, 2, 1), met(0, 2), bar(2, 0, 0), met(0, 2))
        self.assertEqual(told[1:], [[0], [0], [0, 0], [0], [0, 1]])

    def test_freed_either_way_round(self):
        for freed in (bar(1, 3, 0), bar(3, 1, 0)):
            self.assertEqual(last(house(4, 1), bar(1, 3, 1), freed, met(1, 3)), [0, 1])
            self.assertEqual(last(house(4, 1), bar(3, 1, 1), freed, met(1, 3)), [0, 1])

    def test_freed_and_barred_again(self):
        self.assertEqual(last(house(4, 1), bar(1, 3, 1), bar(1, 3, 0), bar(3, 1, 1), met(1, 3)), [0, 0])

    def test_free_what_is_free(self):
        self.assertEqual(asked(bar(0, 1, 0), bar(0, 1, 0), met(0, 1)), [[0], [0], [0, 1]])

    def test_others_stay_as_they_are(self):
        before = [house(5, 1), bar(0, 1, 1), bar(1, 2, 1), bar(0, 1, 0)]
        told = asked(*before, *[met(a, b) for a, b in combinations(range(5), 2)])[len(before):]
        self.assertEqual(told, [[0, 0 if both == (1, 2) else 1] for both in combinations(range(5), 2)])

    def test_to_free_does_not_undo_a_game(self):
        self.assertEqual(last(house(3, 1), game(0, 1), bar(0, 1, 1), bar(0, 1, 0), met(0, 1)), [1, 0])

    def test_barred_teams_may_have_a_game(self):
        self.assertEqual(asked(bar(0, 1, 1), game(0, 1), met(0, 1)), [[0], [0], [1, 0]])

    def test_house_frees_all(self):
        before = [house(4, 1), *bars_but(4), met(0, 1), told_pairs()]
        told = asked(*before, house(4, 1), met(0, 1), told_pairs(), told_set())
        self.assertEqual(told[-6:], [[0, 0], [0, 4, 4, 4, 4], [4], [0, 1], [2, 1, 0, 3, 2], [2, 0]])

    def test_a_refused_house_frees_none(self):
        self.assertEqual(last(house(4, 1), bar(0, 1, 1), house(11, 1), met(0, 1)), [0, 0])


class Pairs(unittest.TestCase):
    def check(self, n, may, told):
        """The told pairing where just these teams may be paired: all others barred, or all others with a game."""
        self.assertEqual(last(house(n, 1), *bars_but(n, *may), told_pairs()), told)
        others = [both for both in combinations(range(n), 2) if both not in may and both[::-1] not in may]
        if len(others) <= 30:
            self.assertEqual(last(house(n, 1), *games(*others), told_pairs()), told)

    def test_all_may_be_paired(self):
        self.assertEqual(last(told_pairs()), [1, 1, 0])
        self.assertEqual(last(house(3, 1), told_pairs()), [1, 1, 0, 3])
        self.assertEqual(last(house(9, 12), told_pairs()), [4, 1, 0, 3, 2, 5, 4, 7, 6, 9])
        self.assertEqual(last(house(10, 12), told_pairs()), [5, 1, 0, 3, 2, 5, 4, 7, 6, 9, 8])

    def test_none_may_be_paired(self):
        for n in range(2, 11):
            self.check(n, (), [0] + [n] * n)
        self.assertEqual(last(game(0, 1), told_pairs()), [0, 2, 2])

    def test_one_pair(self):
        self.check(5, ((3, 1),), [1, 5, 3, 5, 1, 5])

    def test_a_row_of_teams(self):
        self.check(4, ((0, 1), (1, 2), (2, 3)), [2, 1, 0, 3, 2])
        self.check(4, ((1, 0), (0, 2), (2, 3)), [2, 1, 0, 3, 2])
        self.check(5, ((0, 1), (1, 2), (2, 3), (3, 4)), [2, 1, 0, 3, 2, 5])

    def test_more_pairs_go_before_a_lesser_row(self):
        self.check(4, ((0, 1), (0, 2), (1, 3)), [2, 2, 3, 0, 1])
        self.check(6, ((0, 1), (0, 5), (1, 2), (2, 3), (3, 4)), [3, 5, 2, 1, 4, 3, 0])

    def test_all_with_one_team(self):
        self.check(4, ((3, 0), (3, 1), (3, 2)), [1, 3, 4, 4, 0])
        self.check(10, [(0, t) for t in range(1, 10)], [1, 1, 0] + [10] * 8)

    def test_odd_rings(self):
        self.check(4, ((0, 1), (1, 2), (2, 0), (2, 3)), [2, 1, 0, 3, 2])
        self.check(6, ((0, 1), (1, 2), (2, 0), (3, 4), (4, 5), (5, 3), (2, 3)), [3, 1, 0, 3, 2, 5, 4])
        self.check(6, ((0, 1), (1, 2), (2, 0), (3, 4), (4, 5), (5, 3)), [2, 1, 0, 6, 4, 3, 6])
        self.check(5, ((0, 2), (2, 4), (4, 1), (1, 3), (3, 0)), [2, 2, 3, 0, 1, 5])

    def test_two_knots(self):
        self.check(8, TWO_KNOTS, [3, 5, 8, 6, 4, 3, 0, 2, 8])

    def test_a_pair_that_is_freed(self):
        before = [house(4, 1), *bars_but(4)]
        self.assertEqual(asked(*before, bar(3, 1, 0), told_pairs(), bar(2, 0, 0), told_pairs())[-3:],
                         [[1, 4, 3, 4, 1], [0], [2, 2, 3, 0, 1]])

    def test_bars_and_games_together(self):
        before = [house(4, 1), bar(0, 1, 1), game(2, 0)]
        self.assertEqual(last(*before, told_pairs()), [2, 3, 2, 1, 0])

    def test_nothing_changes(self):
        before = [house(6, 2), *games((0, 1), (2, 3)), bar(0, 4, 1)]
        look = [all_games(), met(0, 4), met(0, 2), told_pairs(), told_set(), pieces(0)]
        told = asked(*before, look, look)[len(before):]
        self.assertEqual(told[6:], told[:6])


class ToldSet(unittest.TestCase):
    def check(self, n, may, told):
        self.assertEqual(last(house(n, 1), *bars_but(n, *may), told_set()), told)

    def test_no_team_is_enough_where_all_may_be_paired(self):
        for n in range(2, 11):
            self.assertEqual(last(house(n, 1), told_set()), [n // 2, 0])
        self.assertEqual(last(told_set()), [1, 0])

    def test_no_team_is_enough_where_none_may_be_paired(self):
        for n in range(2, 11):
            self.check(n, (), [0, 0])
        self.assertEqual(last(game(1, 0), told_set()), [0, 0])

    def test_one_team(self):
        self.check(4, ((3, 0), (3, 1), (3, 2)), [1, 1, 3])
        self.check(10, [(4, t) for t in range(10) if t != 4], [1, 1, 4])

    def test_two_teams(self):
        self.check(8, ((0, 2), (0, 3), (0, 4), (1, 5), (1, 6), (1, 7)), [2, 2, 0, 1])
        self.check(8, ((6, 2), (6, 3), (6, 4), (1, 5), (1, 0), (1, 7)), [2, 2, 1, 6])

    def test_four_teams(self):
        self.check(10, [(a, b) for a in (1, 4, 7, 9) for b in (0, 2, 3, 5, 6, 8)], [4, 4, 1, 4, 7, 9])

    def test_fewer_teams_then_the_first_in_order(self):
        # 5 alone and 2 alone do as well as both do together.
        self.check(8, TWO_KNOTS, [3, 1, 2])

    def test_fewer_teams_though_more_would_do(self):
        self.check(4, ((0, 1), (2, 3)), [2, 0])
        self.check(3, ((0, 1), (1, 2)), [1, 0])

    def test_by_games(self):
        others = [(a, b) for a, b in combinations(range(5), 2) if a != 1 and b != 1]
        self.assertEqual(last(house(5, 1), *games(*others), told_set()), [1, 1, 1])


class Pieces(unittest.TestCase):
    def check(self, n, may, row, told):
        self.assertEqual(last(house(n, 1), *bars_but(n, *may), pieces(*row)), told)

    def test_all_together(self):
        self.assertEqual(last(house(5, 1), pieces()), [1, 2, 1, 5, 0, 1, 2, 3, 4])
        self.assertEqual(last(house(4, 1), pieces()), [0, 2, 1, 4, 0, 1, 2, 3])
        self.assertEqual(last(pieces()), [0, 1, 1, 2, 0, 1])

    def test_all_apart(self):
        self.check(4, (), (), [4, 0, 4, 1, 0, 1, 1, 1, 2, 1, 3])
        self.check(3, (), (1,), [2, 1, 2, 1, 0, 1, 2])

    def test_a_full_row(self):
        for n in range(2, 11):
            self.assertEqual(last(house(n, 1), pieces(*range(n))), [0, n, 0])

    def test_all_but_one(self):
        self.assertEqual(last(house(10, 1), pieces(*range(1, 10))), [1, 9, 1, 1, 0])
        self.assertEqual(last(house(10, 1), pieces(*range(9))), [1, 9, 1, 1, 9])

    def test_by_their_least_teams(self):
        self.check(5, ((4, 0), (3, 1)), (), [1, 2, 3, 2, 0, 4, 2, 1, 3, 1, 2])
        self.check(6, ((5, 0), (4, 1), (1, 3)), (), [2, 2, 3, 2, 0, 5, 3, 1, 3, 4, 1, 2])

    def test_of_the_others_alone(self):
        self.check(4, ((3, 0), (3, 1), (3, 2)), (3,), [3, 1, 3, 1, 0, 1, 1, 1, 2])
        self.check(4, ((3, 0), (3, 1), (3, 2)), (0,), [1, 2, 1, 3, 1, 2, 3])
        self.check(5, ((0, 1), (1, 2), (2, 3), (3, 4)), (2,), [0, 3, 2, 2, 0, 1, 2, 3, 4])
        self.check(5, ((0, 1), (1, 2), (2, 3), (3, 4)), (1, 3), [3, 2, 3, 1, 0, 1, 2, 1, 4])

    def test_by_games(self):
        self.assertEqual(last(house(3, 1), *games((0, 1), (1, 2)), pieces()), [1, 1, 2, 2, 0, 2, 1, 1])

    def refused(self, n, *rows):
        before = [house(n, 1), bar(0, 1, 1)]
        for row in rows:
            told = asked(*before, pieces(*row), pieces(), met(0, 1))
            self.assertEqual(told[2:], [[-2]] + asked(*before, pieces(), met(0, 1))[2:], row)

    def test_not_rising(self):
        self.refused(5, (1, 0), (0, 2, 1), (4, 3, 2, 1, 0), (0, 1, 2, 4, 3))

    def test_a_team_twice(self):
        self.refused(5, (0, 0), (1, 1), (0, 1, 2, 2), (0, 1, 1, 2), (0, 2, 0))

    def test_below_0(self):
        self.refused(5, (-1,), (-1, 0, 1), (-2, -1), (0, -1), (-FAR, 0))

    def test_no_such_team(self):
        self.refused(5, (5,), (0, 5), (0, 1, 2, 3, 4, 5), (9,), (10,), (11,))
        self.refused(2, (2,), (0, 1, 2))
        self.refused(10, (10,), (0, 10), tuple(range(11)))

    def test_very_great(self):
        self.refused(5, (FAR,), (-FAR,), (0, FAR), (-FAR, FAR), (0, 1, 2, 3, 4, FAR))

    def test_sixty_numbers(self):
        self.refused(10, tuple(range(60)), (0,) * 60, (FAR,) * 60, (-FAR,) * 60, tuple(range(59, -1, -1)))

    def test_numbers_of_a_row_are_not_taken_for_calls(self):
        self.assertEqual(asked(house(4, 1), pieces(0, 1, 2, 15, 16, 17), told_pairs()), [[4], [-2], [2, 1, 0, 3, 2]])
        self.assertEqual(asked(pieces(), pieces(0), pieces(0, 1)), [[0, 1, 1, 2, 0, 1], [1, 1, 1, 1, 1], [0, 2, 0]])


class Everything(unittest.TestCase):
    """pairs, set and pieces, compared with going through all pairings and all sets."""

    def check(self, n, barred, rows):
        calls = [house(n, 1), *bars(*barred), told_pairs(), told_set(), *[pieces(*row) for row in rows]]
        model = Model()
        told = asked(*calls)
        self.assertEqual(told, [model.answer(call) for call in calls], barred)
        at = 1 + len(barred)
        self.assertEqual(told[at][0], told[at + 1][0])
        for answer in told[at + 2:]:
            self.assertLessEqual(told[at][0], answer[1])

    def all_rows(self, n):
        return [row for size in range(n + 1) for row in combinations(range(n), size)]

    def test_all_ways_to_bar_of_few_teams(self):
        for n in (2, 3, 4):
            for barred in self.all_ways(n):
                self.check(n, barred, self.all_rows(n))
        for barred in self.all_ways(5):
            self.check(5, barred, [])

    def all_ways(self, n):
        both = list(combinations(range(n), 2))
        return [way for size in range(len(both) + 1) for way in combinations(both, size)]

    def test_more_teams(self):
        numbers = Numbers(31)
        for k in range(120):
            n = 6 + numbers.below(3) if k % 4 else 9 + numbers.below(2)
            kept = 1 + numbers.below(9)
            barred = [both for both in combinations(range(n), 2) if numbers.below(10) >= kept]
            self.check(n, barred, [numbers.one_of(self.all_rows(n)) for row in range(10)])

    def test_knots(self):
        # A few teams that hold many together: here the told set isn't empty.
        numbers = Numbers(32)
        sizes = set()
        for k in range(60):
            n = 6 + numbers.below(5)
            knots = [team for team in range(n) if numbers.below(3) == 0][:3]
            barred = []
            for both in combinations(range(n), 2):
                holds = any(team in knots for team in both)
                if numbers.below(10) >= (7 if holds else 1):
                    barred.append(both)
            self.check(n, barred, [knots])
            sizes.add(last(house(n, 1), *bars(*barred), told_set())[1])
        self.assertLessEqual({0, 1, 2, 3}, sizes)


if __name__ == "__main__":
    unittest.main()
