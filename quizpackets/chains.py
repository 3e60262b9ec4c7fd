"""Chains of games of two packets, and evening the packets out by them."""


def chain_of(house, start, packet):
    """The chain, rising, of the game start, which has a packet, by another packet."""
    both = (house.games[start].packet, packet)
    candidates = [number for number in range(len(house.games)) if house.games[number].packet in both]
    held = {start: True}
    waiting = [start]
    while waiting:
        game = house.games[waiting.pop()]
        for number in candidates:
            if number not in held and game.shares_team(house.games[number]):
                held[number] = True
                waiting.append(number)
    return sorted(held)


def exchange(house, chain, one, other):
    """Of the chain's games, all of which have one or other, each gets the packet of both that it lacks."""
    for number in chain:
        game = house.games[number]
        game.packet = other if game.packet == one else one


def turn_chain(house, start, packet):
    """Exchange the chain of the game start by the packet, and tell how many games it has."""
    old = house.games[start].packet
    chain = chain_of(house, start, packet)
    exchange(house, chain, old, packet)
    return len(chain)


def chain_with_more(house, most, fewest):
    """The chain of the first game in whose chain more games have the packet most than fewest."""
    for number in range(len(house.games)):
        packet = house.games[number].packet
        if packet == most or packet == fewest:
            chain = chain_of(house, number, fewest if packet == most else most)
            with_most = len([member for member in chain if house.games[member].packet == most])
            if 2 * with_most > len(chain):
                return chain
    # Not come to: where most has more games in all, it has more in one of the chains.
    return []


def even_out(house):
    """Exchange chains until no packet has two games more than another; tell how many were exchanged."""
    times = 0
    while True:
        counts = house.games_by_packet()
        most = counts.index(max(counts))
        fewest = counts.index(min(counts))
        if counts[most] <= counts[fewest] + 1:
            return times
        exchange(house, chain_with_more(house, most, fewest), most, fewest)
        times += 1
