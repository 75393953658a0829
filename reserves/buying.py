"""The best buy of one direction, and what any other buy of it costs."""


# Some of the whole offers, told by their positions, the others left out.
class Choice:
    def __init__(self, positions, amount, cost):
        self.positions = positions
        self.amount = amount
        self.cost = cost


def cost_of(offers, amounts):
    return sum([offer.capacity * amount for offer, amount in zip(offers, amounts)])


def is_buy(offers, amounts):
    for offer, amount in zip(offers, amounts):
        if amount < 0 or amount > offer.amount:
            return False
        if offer.whole and 0 < amount < offer.amount:
            return False
    return True


def covers(amounts, need):
    return sum(amounts) >= need


# The amount bought of each offer; the offers are all of one direction, in order of entry.
def best_buy(offers, need):
    full = [offer.amount for offer in offers]
    if not covers(full, need):
        return full
    ladder = partible_by_price(offers)
    at_most = sum([offers[position].amount for position in ladder])
    choices = [choice for choice in whole_choices(offers) if choice.amount + at_most >= need]
    ranks = [rank_of(offers, ladder, choice, need) for choice in choices]
    least = min(ranks)
    ties = [choice for choice, rank in zip(choices, ranks) if rank == least]
    # Lists compare number by number, so the greatest gives the earliest offer most, and so on.
    return max([amounts_of(offers, ladder, choice, need) for choice in ties])


# The positions of the offers that aren't whole, cheapest first, of equal prices the earlier first.
def partible_by_price(offers):
    positions = [position for position, offer in enumerate(offers) if not offer.whole]
    return sorted(positions, key=lambda position: (offers[position].capacity, position))


# Every choice of whole offers: at most 256, as there are at most 8 of a direction.
def whole_choices(offers):
    choices = [Choice((), 0, 0)]
    for position, offer in enumerate(offers):
        if offer.whole:
            choices = choices + [with_whole(choice, position, offer) for choice in choices]
    return choices


def with_whole(choice, position, offer):
    cost = choice.cost + offer.amount * offer.capacity
    return Choice(choice.positions + (position,), choice.amount + offer.amount, cost)


# Cost and sum of amounts of the best buy with this choice: the less the better.
def rank_of(offers, ladder, choice, need):
    cost = choice.cost
    missing = need - choice.amount
    for position in ladder:
        if missing <= 0:
            break
        offer = offers[position]
        cost += min(missing, offer.amount) * offer.capacity
        missing -= offer.amount
    # A part can be had of any size, so nothing beyond the need is bought in parts.
    return (cost, max(choice.amount, need))


def amounts_of(offers, ladder, choice, need):
    amounts = [0 for offer in offers]
    for position in choice.positions:
        amounts[position] = offers[position].amount
    missing = need - choice.amount
    for position in ladder:
        if missing <= 0:
            break
        amounts[position] = min(missing, offers[position].amount)
        missing -= amounts[position]
    return amounts
