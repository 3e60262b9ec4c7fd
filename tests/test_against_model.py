"""Many lines of calls, compared with a model that follows the document's words by trying everything out."""

import unittest

from model import Model
from support import FAR, Numbers, anew, asked, even, games, greedy, heard_twice, house, last, packets_behind, sides

ODD_ONES = (-FAR, -2, -1, 10, 11, 12, 13, 29, 30, 31, FAR)


def number_below(numbers, limit):
    """Mostly a number below limit, at times one that is too great or far out of range."""
    if numbers.below(40) == 0:
        return numbers.one_of(ODD_ONES)
    if numbers.below(15) == 0:
        return limit + numbers.below(2)
    return numbers.below(max(limit, 1))


def told_game(numbers, model, side):
    a, b = number_below(numbers, model.n), number_below(numbers, model.n)
    for k in range(8):
        if side and a in range(10) and b in range(10) and side[a] == side[b]:
            b = number_below(numbers, model.n)
    return [1, a, b]


def told_row(numbers, model):
    """Mostly rising teams; at times with one number out of its order, twice, or of no team."""
    row = [team for team in range(model.n) if numbers.below(3) == 0]
    if numbers.below(4) == 0:
        row.insert(numbers.below(len(row) + 1), number_below(numbers, model.n))
    return [17, len(row), *row]


def packet_call(numbers, model, side):
    kind = numbers.below(100)
    g = number_below(numbers, len(model.games))
    if kind < 2:
        return [0, number_below(numbers, 11), number_below(numbers, 13)]
    if kind < 38:
        return told_game(numbers, model, side)
    if kind < 55:
        return [2, g, number_below(numbers, model.c)]
    if kind < 60:
        return [3, g]
    if kind < 70:
        return [4, g, number_below(numbers, model.c)]
    if kind < 82:
        return [5, g, number_below(numbers, model.c)]
    return [numbers.one_of((6, 6, 8, 9))]


def other_call(numbers, model):
    kind = numbers.below(100)
    a, b = number_below(numbers, model.n), number_below(numbers, model.n)
    if kind < 10:
        return [10, a]
    if kind < 22:
        return [numbers.one_of((11, 12))]
    if kind < 62:
        return [14, a, b, numbers.below(4) > 0 if numbers.below(20) else number_below(numbers, 2)]
    if kind < 78:
        return told_row(numbers, model)
    return [18, number_below(numbers, 9)] if kind < 88 else [19, a, b]


def searching_call(numbers, model):
    call = numbers.one_of((7, 13, 13, 15, 16))
    if call == 13:
        return [13, number_below(numbers, 13), number_below(numbers, numbers.one_of((20, 60, 300, 2001)))]
    return [call]


def told_call(numbers, model, side, searching_left):
    kind = numbers.below(100)
    if kind < 12 and searching_left > 0:
        return searching_call(numbers, model)
    call = packet_call(numbers, model, side) if kind < 65 else other_call(numbers, model)
    return [int(number) for number in call]


class AgainstModel(unittest.TestCase):
    def line(self, seed):
        numbers = Numbers(seed)
        model = Model()
        side = [numbers.below(2) for team in range(10)] if numbers.below(3) else None
        calls = [[0, 2 + numbers.below(9), 1 + numbers.below(12)]] if numbers.below(5) else []
        told = [model.answer(call) for call in calls]
        # The model takes its time over many teams.
        searching_left = 20 if model.n < 8 else 4
        length = 10 + numbers.below(191)
        while len(calls) < length:
            call = told_call(numbers, model, side, searching_left)
            searching_left -= call[0] in (7, 13, 15, 16)
            calls.append(call)
            told.append(model.answer(call))
            packets = [-1 if packet is None else packet for packet in model.packet]
            self.assertEqual(heard_twice(model.games, packets), set())
        return calls, told

    def test_lines(self):
        seen = {}
        searched = set()
        for seed in range(400):
            calls, told = self.line(seed)
            self.assertEqual(asked(*calls), told, calls)
            for call, answer in zip(calls, told):
                key = (call[0], min(answer[0], 0))
                seen[key] = seen.get(key, 0) + 1
                if call[0] == 13 and answer[0] >= 0:
                    searched.add(answer[0])
        # The lines are worth something only if they bring about all there is to see.
        wanted = [(call, 0) for call in range(20)] + [
            (0, -1), (1, -1), (1, -4), (1, -5), (1, -7), (2, -1), (2, -4), (2, -6), (3, -1), (3, -4), (4, -1), (4, -4),
            (4, -3), (4, -5), (5, -1), (5, -4), (5, -3), (5, -5), (8, -8), (9, -3), (10, -1), (10, -4), (13, -1),
            (14, -1), (14, -4), (14, -5), (17, -2), (18, -1), (18, -4), (19, -1), (19, -4), (19, -5)]
        self.assertEqual([key for key in wanted if key not in seen], [])
        self.assertEqual(searched, {0, 1, 2})

    def told_by_model(self, calls):
        model = Model()
        return [model.answer(call) for call in calls], model.packet

    def shuffled(self, numbers, values):
        rest = list(values)
        return [rest.pop(numbers.below(len(rest))) for value in values]

    def test_rings(self):
        numbers = Numbers(21)
        sizes = set()
        for k in range(300):
            row = self.shuffled(numbers, range(10))
            size = numbers.one_of((5, 7, 9))
            pairs = [(row[k - 1], row[k]) for k in range(1, size)] + [(row[0], row[size - 1])]
            pairs += [(row[k], row[numbers.below(k)]) for k in range(size, 10)]
            for across in range(numbers.below(4)):
                a, b = numbers.below(size), numbers.below(size)
                # Between teams an odd way apart, so that small rings don't come up at once.
                if abs(a - b) % 2 == 1:
                    pairs.append((row[a], row[b]))
            calls = [house(10, 1), *games(*self.shuffled(numbers, pairs)), sides()]
            told = self.told_by_model(calls)[0][-1]
            self.assertEqual(last(*calls), told, pairs)
            sizes.add(told[1])
        self.assertEqual(sizes, {3, 5, 7, 9})

    def test_anew_then_even(self):
        numbers = Numbers(22)
        for k in range(60):
            n, c = 4 + numbers.below(7), 2 + numbers.below(4)
            side = [team % 2 for team in self.shuffled(numbers, range(n))]
            pairs = []
            for attempt in range(200):
                a, b = numbers.below(n), numbers.below(n)
                if side[a] != side[b] and all(sum(t in pair for pair in pairs) < c for t in (a, b)):
                    pairs.append((a, b))
            calls = [house(n, c), *games(*pairs), anew()]
            told, packets = self.told_by_model(calls)
            self.assertEqual(asked(*calls), told)
            self.assertEqual(packets_behind(calls, len(pairs), c), packets)
            # More packets than games of a team, so that there is something to even out.
            calls = [house(n, c + 4), *games(*pairs), anew(), even()]
            told, packets = self.told_by_model(calls)
            self.assertEqual(asked(*calls), told)
            self.assertEqual(packets_behind(calls, len(pairs), c + 4), packets)

    def test_greedy_then_even(self):
        numbers = Numbers(23)
        for k in range(60):
            n = 3 + numbers.below(8)
            pairs = [(a, b) for a in range(n) for b in range(n) if a != b]
            pairs = self.shuffled(numbers, pairs)[:4 + numbers.below(15)]
            calls = [house(n, 12), *games(*pairs), greedy(), even()]
            told, packets = self.told_by_model(calls)
            self.assertEqual(asked(*calls), told)
            if None not in packets:
                self.assertEqual(packets_behind(calls, len(pairs), 12), packets)


if __name__ == "__main__":
    unittest.main()
