"""The calls: each looks at its refusals in order, does its work, and gives back the numbers it answers."""

from quizpackets.chains import chain_of, even_out, turn_chain
from quizpackets.house import NO_PACKET, Game
from quizpackets.packing import pack_anew, pack_greedily
from quizpackets.sides import odd_ring, two_sides

LEAST_TEAMS = 2
MOST_TEAMS = 10
LEAST_PACKETS = 1
MOST_PACKETS = 12
MOST_GAMES = 30

FITS = 0
OUT_OF_RANGE = -1
WITHOUT_PACKET = -3
NOT_THERE = -4
ALIKE = -5
HEARD_ALREADY = -6
TOO_MANY_GAMES = -7
NOT_TWO_SIDES = -8


def as_list(numbers):
    """A list as it is answered: how many numbers it has, then they."""
    return [len(numbers)] + numbers


def look_up(told):
    """Whether rows of a number, how many there may be at most and how many there are fit; else why not."""
    for row in told:
        if row[0] < 0 or row[0] >= row[1]:
            return OUT_OF_RANGE
    for row in told:
        if row[0] >= row[2]:
            return NOT_THERE
    return FITS


def team_row(house, team):
    return (team, MOST_TEAMS, house.teams)


def game_row(house, number):
    return (number, MOST_GAMES, len(house.games))


def packet_row(house, packet):
    return (packet, MOST_PACKETS, house.packets)


def call_house(house, teams, packets):
    if teams < LEAST_TEAMS or teams > MOST_TEAMS or packets < LEAST_PACKETS or packets > MOST_PACKETS:
        return [OUT_OF_RANGE]
    house.begin(teams, packets)
    return [teams]


def call_game(house, first, second):
    refused = look_up([team_row(house, first), team_row(house, second)])
    if refused != FITS:
        return [refused]
    if first == second:
        return [ALIKE]
    if len(house.games) == MOST_GAMES:
        return [TOO_MANY_GAMES]
    house.games.append(Game(first, second))
    return [len(house.games) - 1]


def call_give(house, number, packet):
    refused = look_up([game_row(house, number), packet_row(house, packet)])
    if refused != FITS:
        return [refused]
    game = house.games[number]
    if game.packet == packet:
        return [0]
    if house.is_heard(game.first, packet) or house.is_heard(game.second, packet):
        return [HEARD_ALREADY]
    game.packet = packet
    return [0]


def call_take(house, number):
    refused = look_up([game_row(house, number)])
    if refused != FITS:
        return [refused]
    house.games[number].packet = NO_PACKET
    return [0]


def chain_refusal(house, number, packet):
    """What chain and turn are refused for, or FITS."""
    refused = look_up([game_row(house, number), packet_row(house, packet)])
    if refused != FITS:
        return refused
    if house.games[number].packet == NO_PACKET:
        return WITHOUT_PACKET
    if house.games[number].packet == packet:
        return ALIKE
    return FITS


def call_chain(house, number, packet):
    refused = chain_refusal(house, number, packet)
    if refused != FITS:
        return [refused]
    return as_list(chain_of(house, number, packet))


def call_turn(house, number, packet):
    refused = chain_refusal(house, number, packet)
    if refused != FITS:
        return [refused]
    return [turn_chain(house, number, packet)]


def call_greedy(house):
    got = pack_greedily(house)
    return [got, len(house.games_without_packet())]


def call_sides(house):
    sides = two_sides(house)
    if sides:
        return [1] + sides
    return [0] + as_list(odd_ring(house))


def call_anew(house):
    if not two_sides(house):
        return [NOT_TWO_SIDES]
    for team in range(house.teams):
        if len(house.games_of(team)) > house.packets:
            return [0, team]
    pack_anew(house)
    return [1]


def call_even(house):
    if house.games_without_packet():
        return [WITHOUT_PACKET]
    return [even_out(house)]
