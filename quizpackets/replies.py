"""What the calls share: the numbers of the refusals, looking whether there is what is told, and answered lists."""

MOST_TEAMS = 10
MOST_PACKETS = 12
MOST_GAMES = 30

FITS = 0
OUT_OF_RANGE = -1
NOT_AS_TOLD = -2
WITHOUT_PACKET = -3
NOT_THERE = -4
ALIKE = -5
HEARD_ALREADY = -6
TOO_MANY_GAMES = -7
NOT_TWO_SIDES = -8


def as_list(numbers):
    """A list as it is answered: how many numbers it has, then they."""
    return [len(numbers)] + numbers


def look_up(told):
    """Whether rows of a number, how many there may be at most and how many there are fit; else why not."""
    for row in told:
        if row[0] < 0 or row[0] >= row[1]:
            return OUT_OF_RANGE
    for row in told:
        if row[0] >= row[2]:
            return NOT_THERE
    return FITS


def team_row(house, team):
    return (team, MOST_TEAMS, house.teams)


def game_row(house, number):
    return (number, MOST_GAMES, len(house.games))


def packet_row(house, packet):
    return (packet, MOST_PACKETS, house.packets)
