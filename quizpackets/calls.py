"""The calls on games and packets: each looks at its refusals in order, does its work, and gives back its answer."""

from quizpackets.chains import chain_of, even_out, turn_chain
from quizpackets.house import NO_PACKET, Game
from quizpackets.packing import pack_anew, pack_greedily
from quizpackets.replies import ALIKE, FITS, HEARD_ALREADY, NOT_TWO_SIDES, OUT_OF_RANGE, TOO_MANY_GAMES, WITHOUT_PACKET
from quizpackets.replies import MOST_GAMES, MOST_PACKETS, MOST_TEAMS
from quizpackets.replies import as_list, game_row, look_up, packet_row, team_row
from quizpackets.search import search_packets
from quizpackets.sides import odd_ring, two_sides

LEAST_TEAMS = 2
LEAST_PACKETS = 1
MOST_STEPS = 2000


def call_house(house, teams, packets):
    if teams < LEAST_TEAMS or teams > MOST_TEAMS or packets < LEAST_PACKETS or packets > MOST_PACKETS:
        return [OUT_OF_RANGE]
    house.begin(teams, packets)
    return [teams]


def call_game(house, first, second):
    refused = look_up([team_row(house, first), team_row(house, second)])
    if refused != FITS:
        return [refused]
    if first == second:
        return [ALIKE]
    if len(house.games) == MOST_GAMES:
        return [TOO_MANY_GAMES]
    house.games.append(Game(first, second))
    return [len(house.games) - 1]


def call_give(house, number, packet):
    refused = look_up([game_row(house, number), packet_row(house, packet)])
    if refused != FITS:
        return [refused]
    game = house.games[number]
    if game.packet == packet:
        return [0]
    if house.is_heard(game.first, packet) or house.is_heard(game.second, packet):
        return [HEARD_ALREADY]
    game.packet = packet
    return [0]


def call_take(house, number):
    refused = look_up([game_row(house, number)])
    if refused != FITS:
        return [refused]
    house.games[number].packet = NO_PACKET
    return [0]


def chain_refusal(house, number, packet):
    """What chain and turn are refused for, or FITS."""
    refused = look_up([game_row(house, number), packet_row(house, packet)])
    if refused != FITS:
        return refused
    if house.games[number].packet == NO_PACKET:
        return WITHOUT_PACKET
    if house.games[number].packet == packet:
        return ALIKE
    return FITS


def call_chain(house, number, packet):
    refused = chain_refusal(house, number, packet)
    if refused != FITS:
        return [refused]
    return as_list(chain_of(house, number, packet))


def call_turn(house, number, packet):
    refused = chain_refusal(house, number, packet)
    if refused != FITS:
        return [refused]
    return [turn_chain(house, number, packet)]


def call_greedy(house):
    got = pack_greedily(house)
    return [got, len(house.games_without_packet())]


def call_sides(house):
    sides = two_sides(house)
    if sides:
        return [1] + sides
    return [0] + as_list(odd_ring(house))


def call_anew(house):
    if not two_sides(house):
        return [NOT_TWO_SIDES]
    for team in range(house.teams):
        if len(house.games_of(team)) > house.packets:
            return [0, team]
    pack_anew(house)
    return [1]


def call_even(house):
    if house.games_without_packet():
        return [WITHOUT_PACKET]
    return [even_out(house)]


def call_hears(house, team):
    refused = look_up([team_row(house, team)])
    if refused != FITS:
        return [refused]
    return as_list(house.packets_heard(team))


def call_uses(house):
    return house.games_by_packet()


def call_games(house):
    told = [len(house.games)]
    for game in house.games:
        told.extend([game.first, game.second, game.packet])
    return told


def call_search(house, packets, steps):
    if packets < LEAST_PACKETS or packets > MOST_PACKETS or steps < 0 or steps > MOST_STEPS:
        return [OUT_OF_RANGE]
    return search_packets(house.games, packets, steps)
