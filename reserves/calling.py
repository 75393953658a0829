"""A quarter: where the units stand for a target, its price, and what they are paid."""

from reserves.standing import copy_of, highest_place, lowest_place


# A quarter with its target; places and payments are in the order of the units.
class Quarter:
    def __init__(self, target, places, price, payments):
        self.target = target
        self.places = places
        self.price = price
        self.payments = payments
        self.called = sum(places)
        self.cost = sum(payments)


# The quarter as it would be if it came next; the units stay where they stand.
def quarter_for(units, target):
    lows = [lowest_place(unit) for unit in units]
    highs = [highest_place(unit) for unit in units]
    energies = [unit.offer.energy for unit in units]
    places = list(lows)
    price = price_at_lowest(lows, highs, energies)
    missing = target - sum(lows)
    for position in by_energy(energies):
        step = min(missing, highs[position] - lows[position])
        if step > 0:
            places[position] += step
            missing -= step
            price = energies[position]
    payments = [payment(place, energy, price) for place, energy in zip(places, energies)]
    return Quarter(target, places, price, payments)


# The price if no unit is raised.
def price_at_lowest(lows, highs, energies):
    movable = [energy for low, high, energy in zip(lows, highs, energies) if low < high]
    return min(movable, default=0)


# The positions, least energy price first, of equal prices the earlier first.
def by_energy(energies):
    return sorted(range(len(energies)), key=lambda position: (energies[position], position))


def payment(place, energy, price):
    # A ramp can hold a unit where the price alone wouldn't pay for it: then its own price counts.
    if place > 0 and energy > price:
        return place * energy
    if place < 0 and energy < price:
        return place * energy
    return place * price


# Puts the units where they stand in that quarter, and adds up what they are paid.
def stand(units, quarter):
    for unit, place, paid in zip(units, quarter.places, quarter.payments):
        unit.place = place
        unit.place_sum += place
        unit.paid += paid


# The quarters as they would be if these targets came one after another; the units stay as they are.
def foreseen(units, targets):
    twins = [copy_of(unit) for unit in units]
    quarters = []
    for target in targets:
        quarter = quarter_for(twins, target)
        stand(twins, quarter)
        quarters.append(quarter)
    return quarters
