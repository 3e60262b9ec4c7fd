"""Calls written by their names, answers taken apart, and what can be seen of a state through the calls."""

from quizpackets.table import answers

FAR = 1000000000000000000
NONE = -1


def house(n, c):
    return [0, n, c]


def game(a, b):
    return [1, a, b]


def give(g, p):
    return [2, g, p]


def take(g):
    return [3, g]


def chain(g, p):
    return [4, g, p]


def turn(g, p):
    return [5, g, p]


def greedy():
    return [6]


def sides():
    return [7]


def anew():
    return [8]


def even():
    return [9]


def hears(t):
    return [10, t]


def uses():
    return [11]


def all_games():
    return [12]


def search(k, s):
    return [13, k, s]


def bar(a, b, k):
    return [14, a, b, k]


def told_pairs():
    return [15]


def told_set():
    return [16]


def pieces(*teams):
    return [17, len(teams), *teams]


def round_of(r):
    return [18, r]


def met(a, b):
    return [19, a, b]


def line(*calls):
    """Calls, each a list, or lists of such calls, as the one list that is handed in."""
    numbers = []
    for call in calls:
        if call and isinstance(call[0], list):
            numbers.extend(line(*call))
        else:
            numbers.extend(call)
    return numbers


def split(told):
    """What answers gave back, as one list for each call."""
    rows = []
    place = 0
    while place < len(told):
        end = place + 1 + told[place]
        assert told[place] >= 1 and end <= len(told), told
        rows.append(told[place + 1:end])
        place = end
    return rows


def asked(*calls):
    """For each of the calls the list of its answers."""
    return split(answers(line(*calls)))


def last(*calls):
    return asked(*calls)[-1]


def games(*pairs):
    return [game(a, b) for a, b in pairs]


def gives(*packets):
    """Gives for the games 0, 1, ..; where NONE stands the game gets none."""
    return [give(g, p) for g, p in enumerate(packets) if p != NONE]


def bars(*both):
    return [bar(a, b, 1) for a, b in both]


def bars_but(n, *both):
    """Bars all pairs of n teams but these."""
    kept = [set(pair) for pair in both]
    return [bar(a, b, 1) for a in range(n) for b in range(a) if {a, b} not in kept]


def triples(told):
    """What games answers, as pairs of teams and their packets."""
    assert len(told) == 1 + 3 * told[0], told
    return [tuple(told[k:k + 2]) for k in range(1, len(told), 3)], told[3::3]


def packet_of(calls, g, c):
    """The packet that game g has behind these calls: chain refuses it with -5, or with -3 if there is none."""
    before = len(asked(*calls))
    rows = asked(*calls, [chain(g, p) for p in range(c)])[before:]
    if rows == [[-3]] * c:
        return NONE
    same = [p for p, row in enumerate(rows) if row == [-5]]
    assert len(same) == 1, rows
    return same[0]


def packets_behind(calls, how_many, c):
    """For each of so many games its packet behind these calls."""
    return [packet_of(calls, g, c) for g in range(how_many)]


def heard_twice(pairs, packets):
    """The (team, packet) that a team hears by two of its games."""
    seen = set()
    twice = set()
    for pair, packet in zip(pairs, packets):
        for team in pair:
            if packet != NONE and (team, packet) in seen:
                twice.add((team, packet))
            seen.add((team, packet))
    return twice


class Numbers:
    """A fixed row of numbers that look thrown, the same on every Python."""

    def __init__(self, seed):
        self.state = seed

    def below(self, limit):
        self.state = (self.state * 6364136223846793005 + 1442695040888963407) % 2 ** 64
        return (self.state >> 33) % limit

    def one_of(self, values):
        return values[self.below(len(values))]
