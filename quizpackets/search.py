"""Searching packets for all games by trying them in turn, with so many steps at most."""

NOT_FOUND = 0
FOUND = 1
STEPS_USED_UP = 2


def heard_ahead(games, got, packet):
    """Whether a team of the game behind those that got packets hears this packet by one of them."""
    game = games[len(got)]
    for number in range(len(got)):
        if got[number] == packet and game.shares_team(games[number]):
            return True
    return False


def search_packets(games, packets, steps):
    """What the search comes to: FOUND and for each game its packet, or NOT_FOUND, or STEPS_USED_UP."""
    got = []
    packet = 0
    made = 0
    while len(got) < len(games):
        if packet == packets:
            if not got:
                return [NOT_FOUND]
            packet = got.pop() + 1
        elif made == steps:
            return [STEPS_USED_UP]
        else:
            made += 1
            if heard_ahead(games, got, packet):
                packet += 1
            else:
                got.append(packet)
                packet = 0
    return [FOUND] + got
