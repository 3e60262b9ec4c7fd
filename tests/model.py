"""The document's words once more, as plainly as can be and by trying everything out, to compare answers with."""

from itertools import combinations, product


class StepsUsedUp(Exception):
    pass


class Model:
    def __init__(self):
        self.new(2, 1)

    def new(self, n, c):
        self.n = n
        self.c = c
        self.games = []  # pairs of teams
        self.packet = []  # for each game, or None
        self.barred = set()  # pairs of teams

    def answer(self, call):
        return [self.house, self.game, self.give, self.take, self.chain, self.turn,
                self.greedy, self.sides, self.anew, self.even, self.hears, self.uses,
                self.told_games, self.search, self.bar, self.pairs, self.told_set, self.told_pieces,
                self.told_round, self.met][call[0]](*call[1:])

    def unfit(self, teams=(), numbers=(), packets=()):
        if any(t not in range(10) for t in teams):
            return -1
        if any(g not in range(30) for g in numbers) or any(p not in range(12) for p in packets):
            return -1
        if any(t >= self.n for t in teams):
            return -4
        if any(g >= len(self.games) for g in numbers) or any(p >= self.c for p in packets):
            return -4
        return None

    def heard(self, team, but=None):
        return {self.packet[g] for g, pair in enumerate(self.games) if team in pair and g != but} - {None}

    def free(self, *teams):
        return [p for p in range(self.c) if not any(p in self.heard(t) for t in teams)]

    def chain_set(self, g, p):
        both = {p, self.packet[g]}
        held = {g}
        while True:
            teams = {t for h in held for t in self.games[h]}
            more = {h for h in range(len(self.games)) if self.packet[h] in both and teams & set(self.games[h])}
            if more <= held:
                return held
            held |= more

    def exchange(self, g, p):
        q = self.packet[g]
        held = self.chain_set(g, p)
        for h in held:
            self.packet[h] = {p: q, q: p}[self.packet[h]]
        return len(held)

    def house(self, n, c):
        if n not in range(2, 11) or c not in range(1, 13):
            return [-1]
        self.new(n, c)
        return [n]

    def game(self, a, b):
        bad = self.unfit(teams=(a, b))
        if bad:
            return [bad]
        if a == b:
            return [-5]
        if len(self.games) == 30:
            return [-7]
        self.games.append((a, b))
        self.packet.append(None)
        return [len(self.games) - 1]

    def give(self, g, p):
        bad = self.unfit(numbers=(g,), packets=(p,))
        if bad:
            return [bad]
        if any(p in self.heard(t, g) for t in self.games[g]):
            return [-6]
        self.packet[g] = p
        return [0]

    def take(self, g):
        bad = self.unfit(numbers=(g,))
        if bad:
            return [bad]
        self.packet[g] = None
        return [0]

    def chain_refused(self, g, p):
        bad = self.unfit(numbers=(g,), packets=(p,))
        if bad:
            return bad
        return {None: -3, p: -5}.get(self.packet[g])

    def chain(self, g, p):
        bad = self.chain_refused(g, p)
        if bad:
            return [bad]
        held = sorted(self.chain_set(g, p))
        return [len(held), *held]

    def turn(self, g, p):
        bad = self.chain_refused(g, p)
        return [bad] if bad else [self.exchange(g, p)]

    def greedy(self):
        got = 0
        for g, pair in enumerate(self.games):
            if self.packet[g] is None and self.free(*pair):
                self.packet[g] = self.free(*pair)[0]
                got += 1
        return [got, self.packet.count(None)]

    def two_sides(self):
        # The first row in order gives 0 to the least team of each set that hangs together.
        for row in product((0, 1), repeat=self.n):
            if all(row[a] != row[b] for a, b in self.games):
                return row
        return None

    def ring(self, size, row=()):
        """The first in order of the rings of so many teams that begin with this row, or None."""
        met = {frozenset(pair) for pair in self.games}
        if len(row) == size:
            return row if frozenset((row[0], row[-1])) in met else None
        for team in range(self.n):
            if team not in row and (not row or frozenset((row[-1], team)) in met):
                found = self.ring(size, row + (team,))
                if found:
                    return found
        return None

    def sides(self):
        row = self.two_sides()
        if row:
            return [1, *row]
        found = [ring for ring in map(self.ring, range(3, self.n + 1, 2)) if ring][0]
        return [0, len(found), *found]

    def anew(self):
        if not self.two_sides():
            return [-8]
        for t in range(self.n):
            if sum(t in pair for pair in self.games) > self.c:
                return [0, t]
        self.packet = [None] * len(self.games)
        for g, (first, second) in enumerate(self.games):
            if self.free(first, second):
                self.packet[g] = self.free(first, second)[0]
                continue
            a = self.free(first)[0]
            b = self.free(second)[0]
            for h, pair in enumerate(self.games):
                if second in pair and self.packet[h] == a:
                    self.exchange(h, b)
                    break
            self.packet[g] = a
        return [1]

    def even(self):
        if None in self.packet:
            return [-3]
        times = 0
        while True:
            uses = [self.packet.count(p) for p in range(self.c)]
            i = min(range(self.c), key=lambda p: (-uses[p], p))
            j = min(range(self.c), key=lambda p: (uses[p], p))
            if uses[i] <= uses[j] + 1:
                return [times]
            for g, packet in enumerate(self.packet):
                if packet in (i, j):
                    held = [self.packet[h] for h in self.chain_set(g, i + j - packet)]
                    if held.count(i) > held.count(j):
                        self.exchange(g, i + j - packet)
                        break
            times += 1

    def hears(self, t):
        bad = self.unfit(teams=(t,))
        if bad:
            return [bad]
        return [len(self.heard(t)), *sorted(self.heard(t))]

    def uses(self):
        return [self.packet.count(p) for p in range(self.c)]

    def told_games(self):
        told = [len(self.games)]
        for (a, b), packet in zip(self.games, self.packet):
            told += [a, b, -1 if packet is None else packet]
        return told

    def search(self, k, s):
        if k not in range(1, 13) or s not in range(2001):
            return [-1]
        made = 0

        def found(row):
            nonlocal made
            if len(row) == len(self.games):
                return row
            for p in range(k):
                made += 1
                if made > s:
                    raise StepsUsedUp
                teams = set(self.games[len(row)])
                if not any(row[g] == p and teams & set(self.games[g]) for g in range(len(row))):
                    whole = found(row + (p,))
                    if whole is not None:
                        return whole
            return None

        try:
            row = found(())
        except StepsUsedUp:
            return [2]
        return [0] if row is None else [1, *row]

    def may(self, a, b):
        return a != b and {a, b} not in [set(pair) for pair in self.games] and frozenset((a, b)) not in self.barred

    def bar(self, a, b, k):
        if k not in (0, 1):
            return [-1]
        bad = self.unfit(teams=(a, b))
        if bad:
            return [bad]
        if a == b:
            return [-5]
        self.barred -= {frozenset((a, b))}
        if k == 1:
            self.barred |= {frozenset((a, b))}
        return [0]

    def may_rows(self):
        return [[self.may(a, b) for b in range(self.n)] for a in range(self.n)]

    def pairings(self):
        """All pairings, as rows."""
        may = self.may_rows()
        rows = [()]
        for t in range(self.n):
            longer = []
            for row in rows:
                if t in row:
                    longer.append(row + (row.index(t),))
                    continue
                longer.append(row + (self.n,))
                longer += [row + (o,) for o in range(t + 1, self.n) if may[t][o] and o not in row]
            rows = longer
        return rows

    def pairs(self):
        most = min(row.count(self.n) for row in self.pairings())
        row = min(row for row in self.pairings() if row.count(self.n) == most)
        return [(self.n - most) // 2, *row]

    def pieces_but(self, left_out, may):
        pieces = [{t} for t in range(self.n) if t not in left_out]
        for a, b in combinations(range(self.n), 2):
            if may[a][b] and a not in left_out and b not in left_out:
                joined = [piece for piece in pieces if a in piece or b in piece]
                pieces = [piece for piece in pieces if piece not in joined] + [set().union(*joined)]
        return sorted(sorted(piece) for piece in pieces)

    def at_most(self, left_out, may):
        odd = sum(len(piece) % 2 for piece in self.pieces_but(left_out, may))
        assert (self.n + len(left_out) - odd) % 2 == 0
        return (self.n + len(left_out) - odd) // 2

    def told_set(self):
        may = self.may_rows()
        rows = [row for size in range(self.n + 1) for row in combinations(range(self.n), size)]
        least, size, row = min((self.at_most(row, may), len(row), row) for row in rows)
        return [least, size, *row]

    def told_pieces(self, count, *row):
        assert count == len(row)
        if list(row) != sorted(set(row)) or not set(row) <= set(range(self.n)):
            return [-2]
        may = self.may_rows()
        pieces = self.pieces_but(row, may)
        told = [sum(len(piece) % 2 for piece in pieces), self.at_most(row, may), len(pieces)]
        for piece in pieces:
            told += [len(piece), *piece]
        return told

    def told_round(self, r):
        m = self.n + self.n % 2
        if r not in range(9):
            return [-1]
        if r >= m - 1:
            return [-4]
        pairs = [{m - 1, r}] + [{(r + i) % (m - 1), (r - i) % (m - 1)} for i in range(1, m // 2)]
        told = []
        for pair in sorted(sorted(pair) for pair in pairs if pair <= set(range(self.n))):
            told += pair
        return told + [r if self.n % 2 else -1]

    def met(self, a, b):
        bad = self.unfit(teams=(a, b))
        if bad:
            return [bad]
        if a == b:
            return [-5]
        return [sum(set(pair) == {a, b} for pair in self.games), int(self.may(a, b))]
