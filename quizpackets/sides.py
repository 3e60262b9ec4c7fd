"""Whether the teams are of two sides, and the odd ring that shows where they aren't."""

NO_SIDE = -1


def opponents(house):
    """For each team the teams it has games with, rising, each once."""
    rows = [[] for team in range(house.teams)]
    for game in house.games:
        rows[game.first].append(game.second)
        rows[game.second].append(game.first)
    return [sorted(set(row)) for row in rows]


def spread_sides(met, sides, start):
    """Give sides to all teams that hang together with start, which has one."""
    waiting = [start]
    while waiting:
        team = waiting.pop()
        for other in met[team]:
            if sides[other] == NO_SIDE:
                sides[other] = 1 - sides[team]
                waiting.append(other)


def two_sides(house):
    """For each team its side, 0 or 1, or an empty list if the teams aren't of two sides."""
    met = opponents(house)
    sides = [NO_SIDE for team in range(house.teams)]
    for team in range(house.teams):
        if sides[team] == NO_SIDE:
            sides[team] = 0
            spread_sides(met, sides, team)
    if any([sides[game.first] == sides[game.second] for game in house.games]):
        return []
    return sides


def one_step_more(met, can_end):
    """For each team, whether it has a game with a team of which can_end holds."""
    longer = []
    for row in met:
        longer.append(any([can_end[other] for other in row]))
    return longer


def walks_home(met, home, length):
    """For each number of steps from 0 to length: for each team, whether just so many steps can lead it home."""
    rows = [[team == home for team in range(len(met))]]
    for step in range(length):
        rows.append(one_step_more(met, rows[step]))
    return rows


def first_walk_round(met, home, length):
    """The first in order of the walks of so many steps from home back to it, or an empty list."""
    can_end = walks_home(met, home, length)
    if not can_end[length][home]:
        return []
    walk = [home]
    for left in range(length - 1, 0, -1):
        walk.append([other for other in met[walk[-1]] if can_end[left][other]][0])
    return walk


def odd_ring(house):
    """The told odd ring, or an empty list if the teams are of two sides."""
    met = opponents(house)
    for length in range(3, house.teams + 1, 2):
        for home in range(house.teams):
            # A shortest odd walk round has no team twice: one of its two parts would be a shorter odd one.
            walk = first_walk_round(met, home, length)
            if walk:
                return walk
    return []
