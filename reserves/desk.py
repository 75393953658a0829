"""The desk: offers and needs, buying, and the quarters that are called."""

from reserves.buying import best_buy, cost_of, covers, is_buy
from reserves.calling import by_energy, foreseen, quarter_for, stand
from reserves.offering import Offer, offers_of
from reserves.reading import is_in_range, read_calls
from reserves.standing import Unit, can_stand_at, highest_after, highest_place, lowest_after, lowest_place

MOST_OFFERS = 24
MOST_WHOLE = 8
MOST_QUARTERS = 96

# Calls that are refused once it has been bought, and calls that are refused until then.
BEFORE = (1, 2, 3, 4)
AFTER = (5, 6, 7, 9, 10, 11, 12, 13, 14, 15, 16, 17, 18)


# What the calls of one list work on; needs are told by direction.
class Desk:
    def __init__(self):
        self.begun = False
        self.reset(0, 0)

    def reset(self, need_up, need_down):
        self.needs = [need_up, need_down]
        self.offers = []
        self.last_number = 0
        self.has_bought = False
        self.units = []
        self.quarters = []


# For each call how many numbers are answered, then these numbers.
def answers(calls):
    desk = Desk()
    told = []
    for call in read_calls(calls):
        answer = answer_of(desk, call)
        told.append(len(answer))
        told.extend(answer)
    return told


def answer_of(desk, call):
    if not is_in_range(call):
        return [-1]
    if call.kind != 0 and not desk.begun:
        return [-2]
    if is_untimely(desk, call.kind):
        return [-3]
    return HANDLERS[call.kind](desk, call.numbers, call.row)


def is_untimely(desk, kind):
    if desk.has_bought:
        return kind in BEFORE
    return kind in AFTER


def begin(desk, numbers, row):
    desk.begun = True
    desk.reset(numbers[0], numbers[1])
    return [0]


def enter_offer(desk, numbers, row):
    direction = numbers[0]
    whole = numbers[5] == 1
    if len(desk.offers) >= MOST_OFFERS:
        return [-4]
    if whole and count_whole(offers_of(desk.offers, direction)) >= MOST_WHOLE:
        return [-5]
    desk.last_number += 1
    offer = Offer(desk.last_number, direction, numbers[1], numbers[2], numbers[3], numbers[4], whole)
    desk.offers.append(offer)
    return [0, offer.number]


def count_whole(offers):
    return len([offer for offer in offers if offer.whole])


def withdraw(desk, numbers, row):
    kept = [offer for offer in desk.offers if offer.number != numbers[0]]
    if len(kept) == len(desk.offers):
        return [-4]
    desk.offers = kept
    return [0]


def set_need(desk, numbers, row):
    desk.needs[numbers[0]] = numbers[1]
    return [0]


def buy(desk, numbers, row):
    taken = {}
    beyond = []
    cost = 0
    for direction, need in enumerate(desk.needs):
        offers = offers_of(desk.offers, direction)
        amounts = best_buy(offers, need)
        for offer, amount in zip(offers, amounts):
            taken[offer.number] = amount
        beyond.append(sum(amounts) - need)
        cost += cost_of(offers, amounts)
    desk.units = [Unit(offer, taken[offer.number]) for offer in desk.offers]
    desk.has_bought = True
    return [0] + beyond + [cost]


def undo_buying(desk, numbers, row):
    if len(desk.quarters) > 0:
        return [-4]
    desk.units = []
    desk.has_bought = False
    return [0]


def tell_taken(desk, numbers, row):
    unit = find_unit(desk.units, numbers[0])
    if unit is None:
        return [-4]
    return [0, unit.taken]


def find_unit(units, number):
    for unit in units:
        if unit.offer.number == number:
            return unit
    return None


def tell_bought(desk, numbers, row):
    return [0] + [unit.taken for unit in desk.units if unit.offer.direction == numbers[0]]


def tell_value(desk, numbers, row):
    offers = offers_of(desk.offers, numbers[0])
    if len(row) != len(offers):
        return [-4]
    if not is_buy(offers, row) or not covers(row, desk.needs[numbers[0]]):
        return [-5]
    return [0, cost_of(offers, row)]


def call_quarter(desk, numbers, row):
    if len(desk.quarters) >= MOST_QUARTERS:
        return [-4]
    quarter = quarter_for(desk.units, numbers[0])
    stand(desk.units, quarter)
    desk.quarters.append(quarter)
    return [0] + outcome(quarter)


# What a quarter came to, as call, foresee and quarter tell it.
def outcome(quarter):
    return [quarter.called, quarter.price, quarter.cost]


def foresee(desk, numbers, row):
    if len(desk.quarters) + len(row) > MOST_QUARTERS:
        return [-4]
    told = [0]
    for quarter in foreseen(desk.units, row):
        told.extend(outcome(quarter))
    return told


def tell_unit(desk, numbers, row):
    unit = find_unit(desk.units, numbers[0])
    if unit is None:
        return [-4]
    places = [unit.place, lowest_place(unit), highest_place(unit)]
    return [0, unit.taken, unit.left] + places + [unit.place_sum, unit.paid]


def set_left(desk, numbers, row):
    unit = find_unit(desk.units, numbers[0])
    if unit is None:
        return [-4]
    if numbers[1] > unit.taken:
        return [-5]
    before = unit.left
    unit.left = numbers[1]
    return [0, before]


def tell_reach(desk, numbers, row):
    least = sum([lowest_after(unit, numbers[0]) for unit in desk.units])
    greatest = sum([highest_after(unit, numbers[0]) for unit in desk.units])
    return [0, least, greatest]


def tell_ladder(desk, numbers, row):
    offers = [unit.offer for unit in desk.units if unit.left > 0]
    positions = by_energy([offer.energy for offer in offers])
    return [0] + [offers[position].number for position in positions]


def tell_places(desk, numbers, row):
    return [0] + [unit.place for unit in desk.units]


def try_places(desk, numbers, row):
    if len(row) != len(desk.units):
        return [-4]
    if not all([can_stand_at(unit, place) for unit, place in zip(desk.units, row)]):
        return [-5]
    worth = sum([place * unit.offer.energy for unit, place in zip(desk.units, row)])
    return [0, sum(row), worth]


def tell_quarter(desk, numbers, row):
    if len(desk.quarters) < numbers[0]:
        return [-4]
    quarter = desk.quarters[numbers[0] - 1]
    return [0, quarter.target] + outcome(quarter)


def tell_costs(desk, numbers, row):
    capacity = sum([unit.taken * unit.offer.capacity for unit in desk.units])
    energy = sum([unit.paid for unit in desk.units])
    return [0, capacity, energy]


def tell_book(desk, numbers, row):
    told = [0] + desk.needs + [1 if desk.has_bought else 0]
    for offer in desk.offers:
        told.extend([offer.number, offer.direction, offer.amount, offer.capacity, offer.energy, offer.ramp])
        told.append(1 if offer.whole else 0)
    return told


HANDLERS = {
    0: begin,
    1: enter_offer,
    2: withdraw,
    3: set_need,
    4: buy,
    5: undo_buying,
    6: tell_taken,
    7: tell_bought,
    8: tell_value,
    9: call_quarter,
    10: foresee,
    11: tell_unit,
    12: set_left,
    13: tell_reach,
    14: tell_ladder,
    15: tell_places,
    16: try_places,
    17: tell_quarter,
    18: tell_costs,
    19: tell_book,
}
