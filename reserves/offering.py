"""An offer of capacity, and the offers of one direction."""


# Capacity that can be bought: direction 0 is up, 1 is down.
class Offer:
    def __init__(self, number, direction, amount, capacity, energy, ramp, whole):
        self.number = number
        self.direction = direction
        self.amount = amount
        self.capacity = capacity
        self.energy = energy
        self.ramp = ramp
        self.whole = whole


def offers_of(offers, direction):
    return [offer for offer in offers if offer.direction == direction]
