"""What the document promises over the whole program, behind long lists of calls of every kind."""

import time
import unittest

from quizpackets.table import answers
from support import FAR, Numbers, all_games, anew, asked, bar, chain, even, game, games, give, greedy, heard_twice
from support import hears, house, line, met, pieces, round_of, search, sides, take, told_pairs, told_set, triples, turn
from support import uses


def some_call(numbers, n, c):
    """A call of any kind but house, at times with a number that is refused."""
    a, b = numbers.below(n), numbers.below(n)
    g, p = numbers.below(20), numbers.below(c)
    if numbers.below(25) == 0:
        a = g = p = numbers.one_of((-1, 29, 30, FAR, -FAR))
    return numbers.one_of((
        game(a, b), game(a, b), game(a, b), give(g, p), give(g, p), give(g, p), take(g), chain(g, p), turn(g, p),
        turn(g, p), greedy(), sides(), anew(), even(), hears(a), uses(), all_games(), search(1 + p, numbers.below(50)),
        bar(a, b, numbers.below(2)), told_pairs(), told_set(), pieces(a, b), round_of(a), met(a, b)))


def long_list(seed, n, c, length):
    """So many calls, at most 20 of them sides, search, pairs or set."""
    numbers = Numbers(seed)
    calls = [house(n, c)]
    searching = 0
    while len(calls) < length:
        call = some_call(numbers, n, c)
        searching += call[0] in (7, 13, 15, 16)
        if call[0] not in (7, 13, 15, 16) or searching <= 20:
            calls.append(call)
    return calls


def some_pairs(numbers, n, at_most):
    thrown = [(numbers.below(n), numbers.below(n)) for k in range(at_most)]
    return [(a, b) for a, b in thrown if a != b]


SIZES = ((2, 1), (2, 12), (3, 4), (4, 3), (6, 5), (7, 12), (9, 8), (10, 1), (10, 12))


class NoTeamHearsAPacketTwice(unittest.TestCase):
    def test_behind_each_call_of_a_long_list(self):
        kinds = set()
        for seed in range(90):
            n, c = SIZES[seed % len(SIZES)]
            calls = long_list(seed, n, c, 100)
            kinds |= {call[0] for call in calls}
            told = asked(*[[call, all_games()] for call in calls])
            for end, row in enumerate(told[1::2], start=1):
                self.assertEqual(heard_twice(*triples(row)), set(), calls[:end])
        self.assertEqual(kinds, set(range(20)))

    def test_hears_behind_a_long_list(self):
        for seed in range(90):
            n, c = SIZES[seed % len(SIZES)]
            calls = long_list(100 + seed, n, c, 189)
            told = asked(*calls, all_games(), *[hears(t) for t in range(n)])[len(calls):]
            pairs, packets = triples(told[0])
            for t in range(n):
                heard = sorted(p for pair, p in zip(pairs, packets) if t in pair and p >= 0)
                self.assertEqual(len(set(heard)), len(heard))
                self.assertEqual(told[1 + t], [len(heard)] + heard)

    def test_search_finds_no_packet_heard_twice(self):
        numbers = Numbers(41)
        found = 0
        for k in range(150):
            n = 2 + numbers.below(9)
            pairs = some_pairs(numbers, n, 12)
            told = asked(house(n, 1), *games(*pairs), search(1 + numbers.below(12), 2000))[-1]
            if told[0] == 1:
                found += 1
                self.assertEqual(len(told), 1 + len(pairs))
                self.assertEqual(heard_twice(pairs, told[1:]), set())
        self.assertGreater(found, 50)


class TwoSides(unittest.TestCase):
    def test_anew_gives_all_games_packets_just_if_no_team_has_more_games(self):
        numbers = Numbers(42)
        seen = set()
        for k in range(100):
            n, c = 2 + numbers.below(9), 1 + numbers.below(8)
            pairs = [(a, b) for a, b in some_pairs(numbers, n, 30) if a % 2 != b % 2]
            told, state = asked(house(n, c), *games(*pairs), anew(), all_games())[-2:]
            most = max([sum(t in pair for pair in pairs) for t in range(n)])
            self.assertEqual(told[0], int(most <= c))
            self.assertEqual(-1 in triples(state)[1], bool(pairs) and most > c)
            seen.add(told[0])
        self.assertEqual(seen, {0, 1})


class Evened(unittest.TestCase):
    def test_uses_behind_even(self):
        numbers = Numbers(43)
        evened = 0
        exchanged = 0
        for k in range(150):
            n, c = 2 + numbers.below(9), 1 + numbers.below(12)
            pairs = some_pairs(numbers, n, 1 + numbers.below(20))
            before = [house(n, c), *games(*pairs), greedy()]
            left = asked(*before)[-1][1]
            told, used, state = asked(*before, even(), uses(), all_games())[-3:]
            if left:
                self.assertEqual(told, [-3])
                continue
            evened += 1
            exchanged += told[0]
            self.assertEqual(len(used), c)
            self.assertEqual(sum(used), len(pairs))
            self.assertLessEqual(max(used) - min(used), 1)
            self.assertEqual(heard_twice(*triples(state)), set())
        self.assertGreater(evened, 50)
        self.assertGreater(exchanged, 50)


class AsManyPairsAsSetTells(unittest.TestCase):
    def test_pairs_and_set_tell_the_same_number(self):
        numbers = Numbers(44)
        for k in range(60):
            n = 2 + numbers.below(9)
            calls = [house(n, 1)]
            for step in range(10):
                for more in range(numbers.below(6)):
                    a, b = numbers.below(n), numbers.below(n)
                    calls.append(game(a, b) if numbers.below(3) == 0 else bar(a, b, int(numbers.below(5) > 0)))
                self.check(calls, n)

    def check(self, calls, n):
        told, shown = asked(*calls, told_pairs(), told_set())[-2:]
        row, left_out = told[1:], shown[2:]
        self.assertEqual(told[0], shown[0])
        self.assertEqual(len(row), n)
        self.assertEqual(2 * told[0], n - row.count(n))
        both = [(a, b) for a, b in enumerate(row) if b != n]
        self.assertTrue(all(row[b] == a for a, b in both))
        if both:
            told_met = asked(*calls, *[met(a, b) for a, b in both])[len(calls):]
            self.assertEqual(told_met, [[0, 1]] * len(both))
        self.assertEqual(asked(*calls, pieces(*left_out))[-1][1], told[0])


class Time(unittest.TestCase):
    def timed(self, calls, seconds):
        handed = line(*calls)
        self.assertLessEqual(len(calls), 200)
        began = time.perf_counter()
        told = answers(handed)
        self.assertLess(time.perf_counter() - began, seconds)
        return told

    def test_two_hundred_calls_with_twenty_searching_ones(self):
        numbers = Numbers(45)
        searching = [told_pairs(), told_set(), search(12, 2000), sides()] * 5
        for barred in (0, 20, 45):
            calls = [house(10, 12)]
            calls += [game(numbers.below(5), 5 + numbers.below(5)) for g in range(30 if barred else 0)]
            calls += [bar(a, b, 1) for a in range(10) for b in range(a)][:barred]
            calls += searching
            calls += [numbers.one_of((even(), anew(), greedy(), pieces(0, 3))) for k in range(200 - len(calls))]
            self.timed(calls, 5)

    def test_twenty_of_each_of_the_searching_calls(self):
        hard = [house(10, 12)] + [game(0, 1)] * 13
        for call in (told_pairs(), told_set(), search(12, 2000), sides()):
            for before in ([house(10, 12)], hard):
                self.timed(before + [call] * 20 + [all_games()] * (180 - len(before)), 5)


if __name__ == "__main__":
    unittest.main()
