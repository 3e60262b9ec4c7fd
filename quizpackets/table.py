"""A list of calls, one behind another, and the list of what they answer."""

from quizpackets.calls import call_anew, call_chain, call_even, call_game, call_games, call_give, call_greedy
from quizpackets.calls import call_hears, call_house, call_search, call_sides, call_take, call_turn, call_uses
from quizpackets.house import House
from quizpackets.pairing_calls import call_bar, call_met, call_pairs, call_pieces, call_round, call_set

# For each call, by its number, how many whole numbers stand behind it; of pieces its row's count alone.
HOW_MANY_NUMBERS = (2, 2, 2, 1, 2, 2, 0, 0, 0, 0, 1, 0, 0, 2, 3, 0, 0, 1, 1, 2)
FIRST_OF_PAIRINGS = 14
PIECES = 17


def answers(calls):
    """For each call how many numbers it answers, then these."""
    house = House()
    told = []
    place = 0
    while place < len(calls):
        end = end_of_call(calls, place)
        answer = answer_of(house, calls[place], calls[place + 1:end])
        told.append(len(answer))
        told.extend(answer)
        place = end
    return told


def end_of_call(calls, place):
    """The place behind the call that begins at this place."""
    end = place + 1 + HOW_MANY_NUMBERS[calls[place]]
    if calls[place] == PIECES:
        return end + calls[end - 1]
    return end


def answer_of(house, call, numbers):
    if call < FIRST_OF_PAIRINGS:
        return packets_answer(house, call, numbers)
    return pairings_answer(house, call, numbers)


def packets_answer(house, call, numbers):
    if call == 0:
        return call_house(house, numbers[0], numbers[1])
    if call == 1:
        return call_game(house, numbers[0], numbers[1])
    if call == 2:
        return call_give(house, numbers[0], numbers[1])
    if call == 3:
        return call_take(house, numbers[0])
    if call == 4:
        return call_chain(house, numbers[0], numbers[1])
    if call == 5:
        return call_turn(house, numbers[0], numbers[1])
    if call == 6:
        return call_greedy(house)
    if call == 7:
        return call_sides(house)
    if call == 8:
        return call_anew(house)
    if call == 9:
        return call_even(house)
    if call == 10:
        return call_hears(house, numbers[0])
    if call == 11:
        return call_uses(house)
    if call == 12:
        return call_games(house)
    return call_search(house, numbers[0], numbers[1])


def pairings_answer(house, call, numbers):
    if call == 14:
        return call_bar(house, numbers[0], numbers[1], numbers[2])
    if call == 15:
        return call_pairs(house)
    if call == 16:
        return call_set(house)
    if call == PIECES:
        return call_pieces(house, numbers[1:])
    if call == 18:
        return call_round(house, numbers[0])
    return call_met(house, numbers[0], numbers[1])
