"""Pairings of teams that may be paired, and the sets of teams that show why there can't be more pairs.

For each team partners has the teams it may be paired with, rising.
"""


def partner_rows(house):
    rows = []
    for team in range(house.teams):
        rows.append([other for other in range(house.teams) if other != team and house.may_be_paired(team, other)])
    return rows


def without(teams, left_out):
    return tuple([team for team in teams if team != left_out])


def most_pairs(partners, free, known):
    """How many pairs the free teams, a rising tuple, can have at most; known keeps what was found on the way."""
    if len(free) < 2:
        return 0
    if free not in known:
        rest = free[1:]
        most = most_pairs(partners, rest, known)
        for other in rest:
            if other in partners[free[0]]:
                most = max(most, 1 + most_pairs(partners, without(rest, other), known))
        known[free] = most
    return known[free]


def first_partner(partners, free, known):
    """The least team with which the first of the free ones leaves as many pairs as can be; how many teams, if none."""
    most = most_pairs(partners, free, known)
    rest = free[1:]
    for other in rest:
        if other in partners[free[0]] and 1 + most_pairs(partners, without(rest, other), known) == most:
            return other
    return len(partners)


def told_pairing(partners):
    """The told pairing: for each team the one it is paired with, or how many teams there are."""
    alone = len(partners)
    row = [alone for team in range(alone)]
    free = tuple(range(alone))
    known = {}
    while free:
        team = free[0]
        other = first_partner(partners, free, known)
        if other != alone:
            row[team] = other
            row[other] = team
        free = without(free[1:], other)
    return row


def piece_from(partners, placed, start):
    """The piece, rising, that start hangs together with; its teams become placed."""
    placed[start] = True
    piece = [start]
    waiting = [start]
    while waiting:
        team = waiting.pop()
        for other in partners[team]:
            if not placed[other]:
                placed[other] = True
                piece.append(other)
                waiting.append(other)
    return sorted(piece)


def pieces_without(partners, left_out):
    """The pieces that the teams that aren't left out hang together in, by their least teams."""
    placed = [team in left_out for team in range(len(partners))]
    pieces = []
    for team in range(len(partners)):
        if not placed[team]:
            pieces.append(piece_from(partners, placed, team))
    return pieces


def odd_pieces(pieces):
    return len([piece for piece in pieces if len(piece) % 2 == 1])


def most_pairs_by(partners, left_out):
    """How many pairs there are at most, as this set of teams shows it."""
    odd = odd_pieces(pieces_without(partners, left_out))
    return (len(partners) + len(left_out) - odd) // 2


def one_team_more(rows, teams):
    """The rising rows that go on from these rows by one team, in order if these are."""
    longer = []
    for row in rows:
        first = row[-1] + 1 if row else 0
        for team in range(first, teams):
            longer.append(row + [team])
    return longer


def told_set(partners):
    """The told set, rising: the first that shows the fewest pairs, those of fewer teams looked at first."""
    told = []
    fewest = most_pairs_by(partners, told)
    rows = [told]
    while rows:
        for row in rows:
            shown = most_pairs_by(partners, row)
            if shown < fewest:
                fewest = shown
                told = row
        rows = one_team_more(rows, len(partners))
    return told
