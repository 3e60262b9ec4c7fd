"""The calls on pairings and rounds: each looks at its refusals in order, and gives back the numbers it answers."""

from quizpackets.pairing import most_pairs_by, odd_pieces, partner_rows, pieces_without, told_pairing, told_set
from quizpackets.replies import ALIKE, FITS, NOT_AS_TOLD, as_list, look_up, team_row
from quizpackets.rounds import places, round_told

MOST_ROUNDS = 9


def call_bar(house, one, other, barred):
    refused = look_up([team_row(house, one), team_row(house, other), (barred, 2, 2)])
    if refused != FITS:
        return [refused]
    if one == other:
        return [ALIKE]
    house.set_bar(one, other, barred == 1)
    return [0]


def call_pairs(house):
    row = told_pairing(partner_rows(house))
    return [(house.teams - row.count(house.teams)) // 2] + row


def call_set(house):
    partners = partner_rows(house)
    told = told_set(partners)
    return [most_pairs_by(partners, told)] + as_list(told)


def are_rising_teams(house, row):
    for place in range(len(row)):
        if row[place] < 0 or row[place] >= house.teams:
            return False
        if place > 0 and row[place] <= row[place - 1]:
            return False
    return True


def call_pieces(house, row):
    if not are_rising_teams(house, row):
        return [NOT_AS_TOLD]
    partners = partner_rows(house)
    pieces = pieces_without(partners, row)
    told = [odd_pieces(pieces), most_pairs_by(partners, row), len(pieces)]
    for piece in pieces:
        told.extend(as_list(piece))
    return told


def call_round(house, number):
    refused = look_up([(number, MOST_ROUNDS, places(house.teams) - 1)])
    if refused != FITS:
        return [refused]
    return round_told(house.teams, number)


def call_met(house, one, other):
    refused = look_up([team_row(house, one), team_row(house, other)])
    if refused != FITS:
        return [refused]
    if one == other:
        return [ALIKE]
    return [house.games_together(one, other), 1 if house.may_be_paired(one, other) else 0]
