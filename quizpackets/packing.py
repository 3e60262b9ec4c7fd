"""Giving packets to many games at once: the least that fits, or all anew."""

from quizpackets.chains import turn_chain
from quizpackets.house import NO_PACKET


def pack_greedily(house):
    """Give each game without a packet the least that fits; tell how many games got one."""
    got = 0
    for game in house.games_without_packet():
        game.packet = house.least_unheard((game.first, game.second))
        if game.packet != NO_PACKET:
            got += 1
    return got


def pack_anew(house):
    """Give all games packets anew; the teams are of two sides, and none has more games than there are packets."""
    for game in house.games:
        game.packet = NO_PACKET
    for game in house.games:
        game.packet = packet_made_free(house, game)


def packet_made_free(house, game):
    """A packet that neither team of the game hears, if need be by exchanging a chain."""
    packet = house.least_unheard((game.first, game.second))
    if packet != NO_PACKET:
        return packet
    of_first = house.least_unheard((game.first,))
    of_second = house.least_unheard((game.second,))
    # With two sides this chain never comes to the first team, so that one still doesn't hear of_first.
    turn_chain(house, house.game_with(game.second, of_first), of_second)
    return of_first
