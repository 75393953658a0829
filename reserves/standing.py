"""A unit: what was bought of an offer, and the places where it can stand."""


# A unit as it is just after buying: all that was taken is left, and it stands at 0.
class Unit:
    def __init__(self, offer, taken):
        self.offer = offer
        self.taken = taken
        self.left = taken
        self.place = 0
        # Over all quarters that were called.
        self.place_sum = 0
        self.paid = 0


def copy_of(unit):
    twin = Unit(unit.offer, unit.taken)
    twin.left = unit.left
    twin.place = unit.place
    twin.place_sum = unit.place_sum
    twin.paid = unit.paid
    return twin


# How near to 0 the unit can stand next quarter.
def nearest(unit):
    return min(max(abs(unit.place) - unit.offer.ramp, 0), unit.left)


# How far from 0 the unit can stand next quarter.
def farthest(unit):
    return min(abs(unit.place) + unit.offer.ramp, unit.left)


def lowest_place(unit):
    return nearest(unit) if unit.offer.direction == 0 else -farthest(unit)


def highest_place(unit):
    return farthest(unit) if unit.offer.direction == 0 else -nearest(unit)


def can_stand_at(unit, place):
    return lowest_place(unit) <= place <= highest_place(unit)


# How near to 0 the unit stands after so many quarters, going as near as it can in each.
def nearest_after(unit, quarters):
    # Only the first can bring it down further than its ramp: from then on it stands within what's left.
    return max(nearest(unit) - (quarters - 1) * unit.offer.ramp, 0)


# How far from 0 the unit stands after so many quarters, going as far as it can in each.
def farthest_after(unit, quarters):
    return min(farthest(unit) + (quarters - 1) * unit.offer.ramp, unit.left)


def lowest_after(unit, quarters):
    return nearest_after(unit, quarters) if unit.offer.direction == 0 else -farthest_after(unit, quarters)


def highest_after(unit, quarters):
    return farthest_after(unit, quarters) if unit.offer.direction == 0 else -nearest_after(unit, quarters)
