"""The rounds of all against all."""

NOBODY = -1


def places(teams):
    """How many teams there are, with one more that stands for resting if they are odd."""
    return teams + teams % 2


def round_pairs(teams, number):
    """The pairs of this round, each with the lesser team first, by these; a pair with the team that isn't there too."""
    turning = places(teams) - 1
    pairs = [(number, turning)]
    for apart in range(1, places(teams) // 2):
        one = (number + apart) % turning
        other = (number - apart) % turning
        pairs.append((min(one, other), max(one, other)))
    return sorted(pairs)


def round_told(teams, number):
    """The pairs of this round, number by number, then the team that rests, or NOBODY."""
    told = []
    resting = NOBODY
    for pair in round_pairs(teams, number):
        if pair[1] == teams:
            resting = pair[0]
        else:
            told.extend(list(pair))
    return told + [resting]
