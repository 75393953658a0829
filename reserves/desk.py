"""The desk: offers and needs, buying, and the quarters that are called."""

from reserves.buying import best_buy, cost_of, covers, is_buy
from reserves.calling import quarter_for, stand
from reserves.offering import Offer, offers_of
from reserves.reading import is_in_range, read_calls
from reserves.standing import Unit

MOST_OFFERS = 24
MOST_WHOLE = 8
MOST_QUARTERS = 96

# Calls that are refused once it has been bought, and calls that are refused until then.
BEFORE = (1, 2, 3, 4)
AFTER = (5, 6, 7, 9)


# What the calls of one list work on; needs are told by direction.
class Desk:
    def __init__(self):
        self.begun = False
        self.reset(0, 0)

    def reset(self, need_up, need_down):
        self.needs = [need_up, need_down]
        self.offers = []
        self.last_number = 0
        self.has_bought = False
        self.units = []
        self.quarters = []


# For each call how many numbers are answered, then these numbers.
def answers(calls):
    desk = Desk()
    told = []
    for call in read_calls(calls):
        answer = answer_of(desk, call)
        told.append(len(answer))
        told.extend(answer)
    return told


def answer_of(desk, call):
    if call.kind not in HANDLERS or not is_in_range(call):
        return [-1]
    if call.kind != 0 and not desk.begun:
        return [-2]
    if is_untimely(desk, call.kind):
        return [-3]
    return HANDLERS[call.kind](desk, call.numbers, call.row)


def is_untimely(desk, kind):
    if desk.has_bought:
        return kind in BEFORE
    return kind in AFTER


def begin(desk, numbers, row):
    desk.begun = True
    desk.reset(numbers[0], numbers[1])
    return [0]


def enter_offer(desk, numbers, row):
    direction = numbers[0]
    whole = numbers[5] == 1
    if len(desk.offers) >= MOST_OFFERS:
        return [-4]
    if whole and count_whole(offers_of(desk.offers, direction)) >= MOST_WHOLE:
        return [-5]
    desk.last_number += 1
    offer = Offer(desk.last_number, direction, numbers[1], numbers[2], numbers[3], numbers[4], whole)
    desk.offers.append(offer)
    return [0, offer.number]


def count_whole(offers):
    return len([offer for offer in offers if offer.whole])


def withdraw(desk, numbers, row):
    kept = [offer for offer in desk.offers if offer.number != numbers[0]]
    if len(kept) == len(desk.offers):
        return [-4]
    desk.offers = kept
    return [0]


def set_need(desk, numbers, row):
    desk.needs[numbers[0]] = numbers[1]
    return [0]


def buy(desk, numbers, row):
    taken = {}
    beyond = []
    cost = 0
    for direction, need in enumerate(desk.needs):
        offers = offers_of(desk.offers, direction)
        amounts = best_buy(offers, need)
        for offer, amount in zip(offers, amounts):
            taken[offer.number] = amount
        beyond.append(sum(amounts) - need)
        cost += cost_of(offers, amounts)
    desk.units = [Unit(offer, taken[offer.number]) for offer in desk.offers]
    desk.has_bought = True
    return [0] + beyond + [cost]


def undo_buying(desk, numbers, row):
    if len(desk.quarters) > 0:
        return [-4]
    desk.units = []
    desk.has_bought = False
    return [0]


def tell_taken(desk, numbers, row):
    unit = find_unit(desk.units, numbers[0])
    if unit is None:
        return [-4]
    return [0, unit.taken]


def find_unit(units, number):
    for unit in units:
        if unit.offer.number == number:
            return unit
    return None


def tell_bought(desk, numbers, row):
    return [0] + [unit.taken for unit in desk.units if unit.offer.direction == numbers[0]]


def tell_value(desk, numbers, row):
    offers = offers_of(desk.offers, numbers[0])
    if len(row) != len(offers):
        return [-4]
    if not is_buy(offers, row) or not covers(row, desk.needs[numbers[0]]):
        return [-5]
    return [0, cost_of(offers, row)]


def call_quarter(desk, numbers, row):
    if len(desk.quarters) >= MOST_QUARTERS:
        return [-4]
    quarter = quarter_for(desk.units, numbers[0])
    stand(desk.units, quarter)
    desk.quarters.append(quarter)
    return [0, quarter.called, quarter.price, quarter.cost]


HANDLERS = {
    0: begin,
    1: enter_offer,
    2: withdraw,
    3: set_need,
    4: buy,
    5: undo_buying,
    6: tell_taken,
    7: tell_bought,
    8: tell_value,
    9: call_quarter,
}
