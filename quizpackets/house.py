"""The teams, the packets, the games and the barred pairs that one list of calls works on."""

NO_PACKET = -1


class Game:
    """A game between two unlike teams, at first without a packet."""

    def __init__(self, first, second):
        self.first = first
        self.second = second
        self.packet = NO_PACKET

    def has_team(self, team):
        return self.first == team or self.second == team

    def shares_team(self, other):
        return other.has_team(self.first) or other.has_team(self.second)


class House:
    """What there is at a line's beginning, and what the calls made of it."""

    def __init__(self):
        self.begin(2, 1)

    def begin(self, teams, packets):
        self.teams = teams
        self.packets = packets
        self.games = []
        self.barred = {}

    def game_with(self, team, packet):
        """The number of the team's game that has the packet; how many games there are, if none has it."""
        for number in range(len(self.games)):
            game = self.games[number]
            if game.packet == packet and game.has_team(team):
                return number
        return len(self.games)

    def is_heard(self, team, packet):
        return self.game_with(team, packet) < len(self.games)

    def least_unheard(self, teams):
        """The least packet that none of these teams hears, or NO_PACKET."""
        for packet in range(self.packets):
            if not any([self.is_heard(team, packet) for team in teams]):
                return packet
        return NO_PACKET

    def games_of(self, team):
        return [game for game in self.games if game.has_team(team)]

    def games_without_packet(self):
        return [game for game in self.games if game.packet == NO_PACKET]

    def games_by_packet(self):
        """For each packet how many games have it."""
        held = [game.packet for game in self.games]
        return [held.count(packet) for packet in range(self.packets)]

    def packets_heard(self, team):
        return sorted([game.packet for game in self.games_of(team) if game.packet != NO_PACKET])

    def games_together(self, one, other):
        return len([game for game in self.games_of(one) if game.has_team(other)])

    def set_bar(self, one, other, barred):
        self.barred[(min(one, other), max(one, other))] = barred

    def may_be_paired(self, one, other):
        """Whether two unlike teams have no game together and aren't barred."""
        barred = self.barred.get((min(one, other), max(one, other)), False)
        return not barred and self.games_together(one, other) == 0
