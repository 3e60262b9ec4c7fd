"""A list of calls, one behind another, and the list of what they answer."""

from quizpackets.calls import call_anew, call_chain, call_even, call_game, call_give
from quizpackets.calls import call_greedy, call_house, call_sides, call_take, call_turn
from quizpackets.house import House

# For each call, by its number, how many whole numbers stand behind it.
HOW_MANY_NUMBERS = (2, 2, 2, 1, 2, 2, 0, 0, 0, 0)


def answers(calls):
    """For each call how many numbers it answers, then these."""
    house = House()
    told = []
    place = 0
    while place < len(calls):
        call = calls[place]
        end = place + 1 + HOW_MANY_NUMBERS[call]
        answer = answer_of(house, call, calls[place + 1:end])
        told.append(len(answer))
        told.extend(answer)
        place = end
    return told


def answer_of(house, call, numbers):
    if call == 0:
        return call_house(house, numbers[0], numbers[1])
    if call == 1:
        return call_game(house, numbers[0], numbers[1])
    if call == 2:
        return call_give(house, numbers[0], numbers[1])
    if call == 3:
        return call_take(house, numbers[0])
    if call == 4:
        return call_chain(house, numbers[0], numbers[1])
    if call == 5:
        return call_turn(house, numbers[0], numbers[1])
    if call == 6:
        return call_greedy(house)
    if call == 7:
        return call_sides(house)
    if call == 8:
        return call_anew(house)
    return call_even(house)
