"""A unit: what was bought of an offer, and the places where it can stand."""


# A unit as it is just after buying: all that was taken is left, and it stands at 0.
class Unit:
    def __init__(self, offer, taken):
        self.offer = offer
        self.taken = taken
        self.left = taken
        self.place = 0


# How near to 0 the unit can stand next quarter.
def nearest(unit):
    return min(max(abs(unit.place) - unit.offer.ramp, 0), unit.left)


# How far from 0 the unit can stand next quarter.
def farthest(unit):
    return min(abs(unit.place) + unit.offer.ramp, unit.left)


def lowest_place(unit):
    return nearest(unit) if unit.offer.direction == 0 else -farthest(unit)


def highest_place(unit):
    return farthest(unit) if unit.offer.direction == 0 else -nearest(unit)
