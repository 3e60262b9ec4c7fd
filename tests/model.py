"""The document's words once more, as plainly as can be and by trying everything out, to compare answers with."""

from itertools import product


class Model:
    def __init__(self):
        self.new(2, 1)

    def new(self, n, c):
        self.n = n
        self.c = c
        self.games = []  # pairs of teams
        self.packet = []  # for each game, or None

    def answer(self, call):
        return [self.house, self.game, self.give, self.take, self.chain, self.turn,
                self.greedy, self.sides, self.anew, self.even][call[0]](*call[1:])

    def unfit(self, teams=(), numbers=(), packets=()):
        if any(t not in range(10) for t in teams):
            return -1
        if any(g not in range(30) for g in numbers) or any(p not in range(12) for p in packets):
            return -1
        if any(t >= self.n for t in teams):
            return -4
        if any(g >= len(self.games) for g in numbers) or any(p >= self.c for p in packets):
            return -4
        return None

    def heard(self, team, but=None):
        return {self.packet[g] for g, pair in enumerate(self.games) if team in pair and g != but} - {None}

    def free(self, *teams):
        return [p for p in range(self.c) if not any(p in self.heard(t) for t in teams)]

    def chain_set(self, g, p):
        both = {p, self.packet[g]}
        held = {g}
        while True:
            teams = {t for h in held for t in self.games[h]}
            more = {h for h in range(len(self.games)) if self.packet[h] in both and teams & set(self.games[h])}
            if more <= held:
                return held
            held |= more

    def exchange(self, g, p):
        q = self.packet[g]
        held = self.chain_set(g, p)
        for h in held:
            self.packet[h] = {p: q, q: p}[self.packet[h]]
        return len(held)

    def house(self, n, c):
        if n not in range(2, 11) or c not in range(1, 13):
            return [-1]
        self.new(n, c)
        return [n]

    def game(self, a, b):
        bad = self.unfit(teams=(a, b))
        if bad:
            return [bad]
        if a == b:
            return [-5]
        if len(self.games) == 30:
            return [-7]
        self.games.append((a, b))
        self.packet.append(None)
        return [len(self.games) - 1]

    def give(self, g, p):
        bad = self.unfit(numbers=(g,), packets=(p,))
        if bad:
            return [bad]
        if any(p in self.heard(t, g) for t in self.games[g]):
            return [-6]
        self.packet[g] = p
        return [0]

    def take(self, g):
        bad = self.unfit(numbers=(g,))
        if bad:
            return [bad]
        self.packet[g] = None
        return [0]

    def chain_refused(self, g, p):
        bad = self.unfit(numbers=(g,), packets=(p,))
        if bad:
            return bad
        return {None: -3, p: -5}.get(self.packet[g])

    def chain(self, g, p):
        bad = self.chain_refused(g, p)
        if bad:
            return [bad]
        held = sorted(self.chain_set(g, p))
        return [len(held), *held]

    def turn(self, g, p):
        bad = self.chain_refused(g, p)
        return [bad] if bad else [self.exchange(g, p)]

    def greedy(self):
        got = 0
        for g, pair in enumerate(self.games):
            if self.packet[g] is None and self.free(*pair):
                self.packet[g] = self.free(*pair)[0]
                got += 1
        return [got, self.packet.count(None)]

    def two_sides(self):
        # The first row in order gives 0 to the least team of each set that hangs together.
        for row in product((0, 1), repeat=self.n):
            if all(row[a] != row[b] for a, b in self.games):
                return row
        return None

    def ring(self, size, row=()):
        """The first in order of the rings of so many teams that begin with this row, or None."""
        met = {frozenset(pair) for pair in self.games}
        if len(row) == size:
            return row if frozenset((row[0], row[-1])) in met else None
        for team in range(self.n):
            if team not in row and (not row or frozenset((row[-1], team)) in met):
                found = self.ring(size, row + (team,))
                if found:
                    return found
        return None

    def sides(self):
        row = self.two_sides()
        if row:
            return [1, *row]
        found = [ring for ring in map(self.ring, range(3, self.n + 1, 2)) if ring][0]
        return [0, len(found), *found]

    def anew(self):
        if not self.two_sides():
            return [-8]
        for t in range(self.n):
            if sum(t in pair for pair in self.games) > self.c:
                return [0, t]
        self.packet = [None] * len(self.games)
        for g, (first, second) in enumerate(self.games):
            if self.free(first, second):
                self.packet[g] = self.free(first, second)[0]
                continue
            a = self.free(first)[0]
            b = self.free(second)[0]
            for h, pair in enumerate(self.games):
                if second in pair and self.packet[h] == a:
                    self.exchange(h, b)
                    break
            self.packet[g] = a
        return [1]

    def even(self):
        if None in self.packet:
            return [-3]
        times = 0
        while True:
            uses = [self.packet.count(p) for p in range(self.c)]
            i = min(range(self.c), key=lambda p: (-uses[p], p))
            j = min(range(self.c), key=lambda p: (uses[p], p))
            if uses[i] <= uses[j] + 1:
                return [times]
            for g, packet in enumerate(self.packet):
                if packet in (i, j):
                    held = [self.packet[h] for h in self.chain_set(g, i + j - packet)]
                    if held.count(i) > held.count(j):
                        self.exchange(g, i + j - packet)
                        break
            times += 1
