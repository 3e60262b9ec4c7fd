"""Each call at ordinary inputs, with the whole list that is given back, count numbers too."""

import unittest

from quizpackets.table import answers
from support import FAR, all_games, anew, asked, bar, chain, even, game, give, greedy, hears, house, line, met, pieces
from support import round_of, search, sides, take, told_pairs, told_set, turn, uses


class WholeLists(unittest.TestCase):
    def check(self, calls, told):
        self.assertEqual(answers(line(*calls)), told)

    def test_house(self):
        self.check([house(4, 3)], [1, 4])
        self.check([house(2, 1), house(10, 12)], [1, 2, 1, 10])

    def test_game(self):
        self.check([house(4, 3), game(2, 0), game(2, 0), game(0, 2), game(3, 1)], [1, 4, 1, 0, 1, 1, 1, 2, 1, 3])

    def test_give(self):
        self.check([house(4, 3), game(0, 1), give(0, 2)], [1, 4, 1, 0, 1, 0])

    def test_take(self):
        self.check([house(4, 3), game(0, 1), give(0, 2), take(0), chain(0, 0)], [1, 4, 1, 0, 1, 0, 1, 0, 1, -3])

    def test_chain(self):
        self.check(
            [house(4, 3), game(0, 1), game(1, 2), give(0, 0), give(1, 1), chain(1, 0), chain(1, 2)],
            [1, 4, 1, 0, 1, 1, 1, 0, 1, 0, 3, 2, 0, 1, 2, 1, 1])

    def test_turn(self):
        self.check(
            [house(4, 3), game(0, 1), game(1, 2), give(0, 0), give(1, 1), turn(1, 0), chain(1, 0), turn(1, 2)],
            [1, 4, 1, 0, 1, 1, 1, 0, 1, 0, 1, 2, 1, -5, 1, 1])

    def test_greedy(self):
        self.check([house(3, 2), game(0, 1), game(0, 2), game(1, 2), greedy()], [1, 3, 1, 0, 1, 1, 1, 2, 2, 2, 1])

    def test_sides_of_two_sides(self):
        self.check([house(5, 2), game(0, 3), game(3, 1), sides()], [1, 5, 1, 0, 1, 1, 6, 1, 0, 0, 0, 1, 0])

    def test_sides_with_an_odd_ring(self):
        self.check(
            [house(4, 2), game(3, 1), game(1, 2), game(3, 2), sides()],
            [1, 4, 1, 0, 1, 1, 1, 2, 5, 0, 3, 1, 2, 3])

    def test_anew(self):
        self.check([house(3, 2), game(0, 1), game(1, 2), anew()], [1, 3, 1, 0, 1, 1, 1, 1])
        self.check([house(3, 1), game(0, 1), game(1, 2), anew()], [1, 3, 1, 0, 1, 1, 2, 0, 1])

    def test_even(self):
        self.check(
            [house(4, 2), game(0, 1), game(2, 3), give(0, 0), give(1, 0), even(), even()],
            [1, 4, 1, 0, 1, 1, 1, 0, 1, 0, 1, 1, 1, 0])

    def test_hears(self):
        self.check(
            [house(3, 3), game(0, 1), game(1, 2), give(0, 2), give(1, 0), hears(1), hears(2)],
            [1, 3, 1, 0, 1, 1, 1, 0, 1, 0, 3, 2, 0, 2, 2, 1, 0])
        self.check([hears(1)], [1, 0])

    def test_uses(self):
        self.check([house(3, 3), game(0, 1), give(0, 2), uses()], [1, 3, 1, 0, 1, 0, 3, 0, 0, 1])

    def test_games(self):
        self.check(
            [house(3, 3), game(2, 1), game(0, 1), give(0, 2), all_games()],
            [1, 3, 1, 0, 1, 1, 1, 0, 7, 2, 2, 1, 2, 0, 1, -1])
        self.check([all_games()], [1, 0])

    def test_search(self):
        self.check(
            [search(1, 0), game(0, 1), game(0, 1), search(2, 3), search(2, 2), search(1, 2)],
            [1, 1, 1, 0, 1, 1, 3, 1, 0, 1, 1, 2, 1, 0])

    def test_bar_and_met(self):
        self.check(
            [met(0, 1), bar(1, 0, 1), met(0, 1), bar(0, 1, 0), met(1, 0)],
            [2, 0, 1, 1, 0, 2, 0, 0, 1, 0, 2, 0, 1])

    def test_pairs(self):
        self.check([house(3, 1), bar(0, 1, 1), told_pairs()], [1, 3, 1, 0, 4, 1, 2, 3, 0])

    def test_set(self):
        self.check(
            [house(4, 1), game(0, 1), game(0, 2), game(1, 2), told_set(), house(2, 1), told_set()],
            [1, 4, 1, 0, 1, 1, 1, 2, 3, 1, 1, 3, 1, 2, 2, 1, 0])

    def test_pieces(self):
        self.check(
            [house(4, 1), game(0, 1), game(0, 2), game(1, 2), pieces(3), pieces(), pieces(0, 1, 2, 3), pieces(3, 3)],
            [1, 4, 1, 0, 1, 1, 1, 2, 9, 3, 1, 3, 1, 0, 1, 1, 1, 2, 8, 0, 2, 1, 4, 0, 1, 2, 3, 3, 0, 4, 0, 1, -2])

    def test_round(self):
        self.check([round_of(0), round_of(1), house(3, 1), round_of(0)], [3, 0, 1, -1, 1, -4, 1, 3, 3, 1, 2, 0])

    def test_refusals_among_done_calls(self):
        self.check([house(11, 1), game(0, 1), game(1, 1), sides(), even()], [1, -1, 1, 0, 1, -5, 3, 1, 0, 1, 1, -3])
        self.check([pieces(5, 5), round_of(9), met(0, 0), uses()], [1, -2, 1, -1, 1, -5, 1, 0])


class Beginning(unittest.TestCase):
    def test_two_teams(self):
        self.assertEqual(asked(game(0, 1), game(0, 2), game(2, 1)), [[0], [-4], [-4]])

    def test_one_packet(self):
        self.assertEqual(asked(game(0, 1), give(0, 1), give(0, 0), chain(0, 0)), [[0], [-4], [0], [-5]])

    def test_no_game(self):
        self.assertEqual(asked(give(0, 0), take(0), chain(0, 0), turn(0, 0)), [[-4]] * 4)
        self.assertEqual(asked(greedy(), sides(), anew(), even()), [[0, 0], [1, 0, 0], [1], [0]])
        self.assertEqual(asked(hears(0), uses(), all_games(), search(1, 0)), [[0], [0], [0], [1]])

    def test_no_barred_pair(self):
        self.assertEqual(asked(met(0, 1), told_pairs(), told_set()), [[0, 1], [1, 1, 0], [1, 0]])

    def test_each_call_may_be_first_and_alone(self):
        self.assertEqual(answers([6]), [2, 0, 0])
        self.assertEqual(answers([7]), [3, 1, 0, 0])
        self.assertEqual(answers([8]), [1, 1])
        self.assertEqual(answers([9]), [1, 0])
        self.assertEqual(answers([1, 1, 0]), [1, 0])
        self.assertEqual(answers([10, 0]), [1, 0])
        self.assertEqual(answers([11]), [1, 0])
        self.assertEqual(answers([12]), [1, 0])
        self.assertEqual(answers([13, 1, 0]), [1, 1])
        self.assertEqual(answers([14, 0, 1, 1]), [1, 0])
        self.assertEqual(answers([15]), [3, 1, 1, 0])
        self.assertEqual(answers([16]), [2, 1, 0])
        self.assertEqual(answers([17, 0]), [6, 0, 1, 1, 2, 0, 1])
        self.assertEqual(answers([17, 1, 0]), [5, 1, 1, 1, 1, 1])
        self.assertEqual(answers([18, 0]), [3, 0, 1, -1])
        self.assertEqual(answers([19, 0, 1]), [2, 0, 1])


class HouseInTheMiddle(unittest.TestCase):
    def test_games_are_gone(self):
        told = asked(house(5, 4), game(0, 1), game(3, 4), give(0, 3), house(5, 4), take(0), greedy(), game(1, 2))
        self.assertEqual(told[5:], [[-4], [0, 0], [0]])

    def test_packets_are_gone(self):
        told = asked(house(3, 2), game(0, 1), give(0, 0), house(3, 2), game(0, 1), chain(0, 1), give(0, 0))
        self.assertEqual(told[5:], [[-3], [0]])

    def test_fewer_teams_and_packets(self):
        told = asked(house(10, 12), game(8, 9), give(0, 11), house(2, 1), game(0, 2), game(0, 1), give(0, 1), sides())
        self.assertEqual(told[4:], [[-4], [0], [-4], [1, 0, 1]])

    def test_more_teams_and_packets(self):
        told = asked(game(0, 1), house(10, 12), game(8, 9), give(0, 11), sides())
        self.assertEqual(told[2:], [[0], [0], [1] + [0] * 9 + [1]])

    def test_games_are_counted_anew(self):
        full = [house(2, 12)] + [game(0, 1)] * 30
        self.assertEqual(asked(*full, house(2, 12), *[game(1, 0)] * 31)[31:], [[2]] + [[g] for g in range(30)] + [[-7]])


class HandedIn(unittest.TestCase):
    CALLS = line(
        house(6, 3), game(0, 1), game(1, 2), game(4, 5), give(0, 0), give(1, 1), turn(0, 1), turn(0, 0), greedy(),
        even(), sides(), anew(), take(1), even(), game(0, 2), sides(), anew(), house(20, 20), chain(0, 1),
        hears(1), uses(), all_games(), search(2, 50), search(3, 50), bar(3, 4, 1), bar(3, 5, 1), bar(4, 3, 0),
        told_pairs(), told_set(), pieces(), pieces(1, 3), pieces(3, 1), round_of(2), round_of(5), met(3, 5), met(5, 5))

    def test_the_list_is_as_it_was(self):
        handed = list(self.CALLS)
        answers(handed)
        self.assertEqual(handed, self.CALLS)

    def test_the_list_is_not_changed_for_a_while_either(self):
        class Guarded(list):
            def changed(self, *rest, **named):
                raise AssertionError("the list that was handed in is changed")

            append = clear = extend = insert = pop = remove = reverse = sort = changed
            __setitem__ = __delitem__ = __iadd__ = __imul__ = changed

        self.assertEqual(answers(Guarded(self.CALLS)), answers(list(self.CALLS)))

    def test_twice_in_a_row(self):
        first = answers(self.CALLS)
        self.assertEqual(answers(self.CALLS), first)

    def test_no_bar_is_kept_from_another_list(self):
        answers(line(bar(0, 1, 1)))
        self.assertEqual(asked(met(0, 1)), [[0, 1]])

    def test_nothing_is_kept_from_another_list(self):
        answers(line(house(10, 12), game(8, 9), give(0, 11)))
        self.assertEqual(asked(take(0), game(0, 2), game(0, 1), give(0, 1)), [[-4], [-4], [0], [-4]])

    def test_what_is_given_back_is_another_list_each_time(self):
        first = answers(self.CALLS)
        first.clear()
        self.assertNotEqual(answers(self.CALLS), [])

    def test_whole_numbers_in_a_list(self):
        told = answers(self.CALLS)
        self.assertIs(type(told), list)
        self.assertEqual({type(number) for number in told}, {int})

    def test_as_many_numbers_as_can_be_handed_in(self):
        told = asked(house(10, 12), *[pieces(*[FAR] * 60)] * 199)
        self.assertEqual(told, [[10]] + [[-2]] * 199)

    def test_two_hundred_calls(self):
        told = asked(house(2, 12), *[game(0, 1)] * 30, *[greedy()] * 169)
        self.assertEqual(told, [[2]] + [[g] for g in range(30)] + [[12, 18]] + [[0, 18]] * 168)


if __name__ == "__main__":
    unittest.main()
