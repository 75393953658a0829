"""Whole lists of calls: how they are read, what is kept, and random lists against a plain model."""

import copy
import itertools
import random
import unittest

from reserves.desk import answers
from tests.lines import (AGAIN, AVAIL, BIG, BOOK, BOUGHT, BUY, CALL, COSTS, FORESEE, LADDER, NEED, OFFER, OPEN,
                         PLACES, QUARTER, REACH, TAKEN, TRY, UNIT, VALUE, WITHDRAW, ask, down, line, parted, up)


class Reading(unittest.TestCase):
    def test_every_call_is_read_to_its_end(self):
        """A call behind any of the twenty, with lists of all lengths, is answered as by itself."""
        lists = [[], [4], [0, 5, 0], list(range(24)), [4] * 25, [0] * 96, [1] * 97, [BIG, -BIG] * 50]
        ahead = [up(5), (WITHDRAW, 4), (NEED, 4, 4), (BUY,), (AGAIN,), (TAKEN, 4), (BOUGHT, 4), (CALL, 4),
                 (UNIT, 4), (AVAIL, 4, 4), (REACH, 4), (LADDER,), (PLACES,), (QUARTER, 4), (COSTS,), (BOOK,),
                 (OPEN, -4, 4)]
        for row in lists:
            ahead += [(VALUE, 4, row), (FORESEE, row), (TRY, row)]
        behind = [(OPEN, 3, 0), up(5, 2), (BUY,), (TAKEN, 1)]
        for call in ahead:
            told = ask(call, *behind)
            self.assertEqual(len(told[0]), 1)
            self.assertLess(told[0][0], 0)
            self.assertEqual(told[1:], [[0], [0, 1], [0, 0, 0, 6], [0, 3]], call)

    def test_answers_stand_behind_their_counts(self):
        calls = line([(OPEN, 3, 1), up(5, 2, 9), down(4, 1, 8, whole=1), (BUY,), (BOUGHT, 0), (CALL, 2), (BUY,)])
        self.assertEqual(answers(calls), [1, 0, 2, 0, 1, 2, 0, 2, 4, 0, 0, 3, 10, 2, 0, 3, 4, 0, 2, 9, 18, 1, -3])

    def test_no_such_call(self):
        for kind in (20, -1, BIG):
            self.assertEqual(answers([kind]), [1, -1])
            self.assertEqual(ask((OPEN, 0, 0), (kind,), (BUY,), (kind,)), [[0], [-1], [0, 0, 0, 0], [-1]])

    def test_four_hundred_calls(self):
        told = ask((OPEN, 0, 0), *[(VALUE, 0, [0] * 100)] * 150, *[(NEED, 0, 1)] * 249)
        self.assertEqual(told, [[0]] + [[-1]] * 150 + [[0]] * 249)


class NothingKept(unittest.TestCase):
    def setUp(self):
        self.calls = line([(OPEN, 9, 4), up(8, 3, 20, 2), down(6, 2, 10, 3, 1), up(7, 1, 30), (VALUE, 0, [5, 4]),
                           (BUY,), (AGAIN,), up(2, 0, 5), (BUY,), (BOUGHT, 0), (FORESEE, [4, -4]), (CALL, 5),
                           (AVAIL, 3, 2), (CALL, -3), (TAKEN, 2), (UNIT, 3), (REACH, 4), (LADDER,), (PLACES,),
                           (TRY, [0, -6, 2, 0]), (QUARTER, 1), (COSTS,), (BOOK,), (AGAIN,)])

    def test_what_is_handed_in_is_the_same_afterwards(self):
        before = copy.deepcopy(self.calls)
        answers(self.calls)
        self.assertEqual(self.calls, before)

    def test_the_same_list_twice(self):
        first = answers(self.calls)
        self.assertEqual(answers(self.calls), first)
        answers(line([(OPEN, 1, 1), up(1)]))
        self.assertEqual(answers(self.calls), first)

    def test_an_answer_that_was_changed_is_not_seen_again(self):
        first = answers(self.calls)
        kept = list(first)
        first.clear()
        self.assertEqual(answers(self.calls), kept)

    def test_each_list_begins_with_nothing_open(self):
        answers(self.calls)
        self.assertEqual(answers([BUY]), [1, -2])

    def test_whole_numbers_in_a_list(self):
        told = answers(self.calls)
        self.assertIs(type(told), list)
        self.assertEqual({type(number) for number in told}, {int})


# Of each number of a call the least and the greatest; of a row its length at most, and the same.
RANGES = {
    OPEN: [(0, 10 ** 11)] * 2,
    OFFER: [(0, 1), (1, 10 ** 9), (0, 10 ** 6), (-10 ** 6, 10 ** 6), (1, 10 ** 9), (0, 1)],
    WITHDRAW: [(-BIG, BIG)],
    NEED: [(0, 1), (0, 10 ** 11)],
    TAKEN: [(-BIG, BIG)],
    BOUGHT: [(0, 1)],
    VALUE: [(0, 1)],
    CALL: [(-10 ** 11, 10 ** 11)],
    UNIT: [(-BIG, BIG)],
    AVAIL: [(-BIG, BIG), (0, 10 ** 9)],
    REACH: [(1, 1000)],
    QUARTER: [(1, 96)],
}
ROWS = {VALUE: (24, 0, 10 ** 9), FORESEE: (96, -10 ** 11, 10 ** 11), TRY: (24, -10 ** 9, 10 ** 9)}
BEFORE = (OFFER, WITHDRAW, NEED, BUY)
AFTER = (AGAIN, TAKEN, BOUGHT, CALL, FORESEE, UNIT, AVAIL, REACH, LADDER, PLACES, TRY, QUARTER, COSTS)


class Model:
    """The twenty calls as the words tell them, by search and step by step, for small numbers alone."""

    def __init__(self):
        self.needs = None
        self.taken = None

    def answer(self, call):
        kind = call[0]
        for number, (least, greatest) in zip(call[1:], RANGES.get(kind, [])):
            if not least <= number <= greatest:
                return [-1]
        if kind in ROWS:
            most, least, greatest = ROWS[kind]
            if len(call[-1]) > most or any(not least <= number <= greatest for number in call[-1]):
                return [-1]
        if kind == OPEN:
            self.needs, self.offers, self.given = list(call[1:]), [], 0
            self.taken, self.log = None, []
            return [0]
        if self.needs is None:
            return [-2]
        if self.taken is not None and kind in BEFORE or self.taken is None and kind in AFTER:
            return [-3]
        return getattr(self, "call_%d" % kind)(*call[1:])

    def side(self, direction):
        return [offer for offer in self.offers if offer[1] == direction]

    def ways(self, offer):
        """All places where the unit of that offer can stand next quarter, in order."""
        stand, left, ramp = abs(self.places[offer[0]]), self.left[offer[0]], offer[5]
        fewest, most = min(max(stand - ramp, 0), left), min(stand + ramp, left)
        return sorted(-s if offer[1] else s for s in range(fewest, most + 1))

    def call_1(self, direction, q, capacity, energy, ramp, whole):
        if len(self.offers) == 24:
            return [-4]
        if whole and len([offer for offer in self.side(direction) if offer[6]]) == 8:
            return [-5]
        self.given += 1
        self.offers.append((self.given, direction, q, capacity, energy, ramp, whole))
        return [0, self.given]

    def call_2(self, number):
        if number not in [offer[0] for offer in self.offers]:
            return [-4]
        self.offers = [offer for offer in self.offers if offer[0] != number]
        return [0]

    def call_3(self, direction, q):
        self.needs[direction] = q
        return [0]

    def call_4(self):
        self.taken = {}
        beyond, cost = [], 0
        for direction in (0, 1):
            side = self.side(direction)
            ways = itertools.product(*[(0, offer[2]) if offer[6] else range(offer[2] + 1) for offer in side])
            ranked = [(sum(a * offer[3] for a, offer in zip(way, side)), sum(way), [-a for a in way])
                      for way in ways if sum(way) >= self.needs[direction]]
            best = [-a for a in min(ranked)[2]] if ranked else [offer[2] for offer in side]
            beyond.append(sum(best) - self.needs[direction])
            cost += sum(a * offer[3] for a, offer in zip(best, side))
            self.taken.update({offer[0]: a for offer, a in zip(side, best)})
        self.left = dict(self.taken)
        self.places = dict.fromkeys(self.taken, 0)
        self.capacity_cost = cost
        return [0] + beyond + [cost]

    def call_5(self):
        if self.log:
            return [-4]
        self.taken = None
        return [0]

    def call_6(self, number):
        return [0, self.taken[number]] if number in self.taken else [-4]

    def call_7(self, direction):
        return [0] + [self.taken[offer[0]] for offer in self.side(direction)]

    def call_8(self, direction, row):
        side = self.side(direction)
        if len(row) != len(side):
            return [-4]
        if sum(row) < self.needs[direction]:
            return [-5]
        for amount, offer in zip(row, side):
            if amount > offer[2] or offer[6] and amount not in (0, offer[2]):
                return [-5]
        return [0, sum(amount * offer[3] for amount, offer in zip(row, side))]

    def call_9(self, target):
        if len(self.log) == 96:
            return [-4]
        ways = {offer[0]: self.ways(offer) for offer in self.offers}
        price = min([offer[4] for offer in self.offers if len(ways[offer[0]]) > 1], default=0)
        self.places = {number: places[0] for number, places in ways.items()}
        while sum(self.places.values()) < target:
            room = [(offer[4], offer[0]) for offer in self.offers if self.places[offer[0]] < ways[offer[0]][-1]]
            if not room:
                break
            price, number = min(room)
            self.places[number] += 1
        paid = {}
        for offer in self.offers:
            place = self.places[offer[0]]
            own = place > 0 and offer[4] > price or place < 0 and offer[4] < price
            paid[offer[0]] = place * (offer[4] if own else price)
        outcome = [sum(self.places.values()), price, sum(paid.values())]
        self.log.append((target, outcome, self.places.copy(), paid))
        return [0] + outcome

    def call_10(self, targets):
        if len(self.log) + len(targets) > 96:
            return [-4]
        other = copy.deepcopy(self)
        return [0] + [number for target in targets for number in other.call_9(target)[1:]]

    def call_11(self, number):
        if number not in self.taken:
            return [-4]
        ways = self.ways([offer for offer in self.offers if offer[0] == number][0])
        return [0, self.taken[number], self.left[number], self.places[number], ways[0], ways[-1],
                sum(entry[2][number] for entry in self.log), sum(entry[3][number] for entry in self.log)]

    def call_12(self, number, q):
        if number not in self.taken:
            return [-4]
        if q > self.taken[number]:
            return [-5]
        before, self.left[number] = self.left[number], q
        return [0, before]

    def call_13(self, k):
        ends = []
        for at in (0, -1):
            other = copy.deepcopy(self)
            for quarter in range(k):
                other.places = {offer[0]: other.ways(offer)[at] for offer in other.offers}
            ends.append(sum(other.places.values()))
        return [0] + ends

    def call_14(self):
        return [0] + [number for energy, number in sorted((offer[4], offer[0]) for offer in self.offers
                                                          if self.left[offer[0]])]

    def call_15(self):
        return [0] + [self.places[offer[0]] for offer in self.offers]

    def call_16(self, row):
        if len(row) != len(self.offers):
            return [-4]
        if any(place not in self.ways(offer) for place, offer in zip(row, self.offers)):
            return [-5]
        return [0, sum(row), sum(place * offer[4] for place, offer in zip(row, self.offers))]

    def call_17(self, k):
        return [0, self.log[k - 1][0]] + self.log[k - 1][1] if k <= len(self.log) else [-4]

    def call_18(self):
        return [0, self.capacity_cost, sum(entry[1][2] for entry in self.log)]

    def call_19(self):
        rows = [number for offer in self.offers for number in offer]
        return [0] + self.needs + [int(self.taken is not None)] + rows


def random_calls(source, how_many, model):
    """Calls with small numbers, now and then a wrong one, with what the model answers to each."""
    calls, told = [], []
    for k in range(how_many):
        call = random_call(source, k, model)
        calls.append(call)
        told.append(model.answer(call))
    return calls, told


def random_offer(source):
    return (OFFER, source.randint(0, 1), source.randint(1, 5), source.randint(0, 3), source.randint(-3, 3),
            source.randint(1, 4), source.randint(0, 1))


def random_call(source, k, model):
    many = model.needs is not None and len(model.offers) >= 6
    weights = [1, 0 if many else 20, 6, 6, 6, 4, 4, 4, 8, 3] + [1] * 9 + [5]
    if model.taken is not None:
        weights = [1, 1, 1, 1, 1, 2, 4, 4, 4, 20, 6, 12, 14, 10, 6, 8, 10, 8, 6, 4]
    kind = OPEN if k == 0 and source.random() < 0.95 else source.choices(range(20), weights)[0]
    plain = {
        OPEN: lambda: [source.randint(0, 9), source.randint(0, 9)],
        OFFER: lambda: list(random_offer(source)[1:]),
        WITHDRAW: lambda: [source.randint(0, 9)],
        NEED: lambda: [source.randint(0, 1), source.randint(0, 12)],
        TAKEN: lambda: [source.randint(0, 9)],
        BOUGHT: lambda: [source.randint(0, 1)],
        VALUE: lambda: [source.randint(0, 1)],
        CALL: lambda: [source.randint(-14, 14)],
        UNIT: lambda: [source.randint(0, 8)],
        AVAIL: lambda: [source.randint(0, 8), source.choice((0, 1, 2, 3, 4, 5, 6))],
        REACH: lambda: [source.choice((1, 2, 3, 4, 9))],
        QUARTER: lambda: [source.randint(1, 12)],
    }
    numbers = plain[kind]() if kind in plain else []
    call = [kind] + [wrong_at_times(source, number, kind, at) for at, number in enumerate(numbers)]
    return (*call, random_row(source, kind, model)) if kind in ROWS else tuple(call)


def wrong_at_times(source, number, kind, at):
    if source.random() < 0.99:
        return number
    least, greatest = RANGES[kind][at]
    return source.choice((least - 1, greatest + 1))


def random_row(source, kind, model):
    most, least, greatest = ROWS[kind]
    if kind == FORESEE:
        row = [source.randint(-14, 14) for k in range(source.choice((0, 1, 2, 5, 5, 96, 97)))]
    elif model.needs is None or source.random() < 0.2:
        row = [source.randint(0, 5) for k in range(source.choice((0, 1, 2, 3, 24, 25)))]
    elif kind == VALUE:
        row = [source.choice((offer[2], offer[2], offer[2], 0, 2)) for offer in model.side(source.randint(0, 1))]
    elif model.taken is None:
        row = [0 for offer in model.offers]
    else:
        row = [source.choice(model.ways(offer)) for offer in model.offers]
        if row and source.random() < 0.3:
            row[source.randrange(len(row))] += source.choice((-1, 1))
    if row and source.random() < 0.05:
        row[source.randrange(len(row))] = source.choice((least - 1, least, greatest, greatest + 1))
    return row


class AgainstTheModel(unittest.TestCase):
    def test_random_lists(self):
        seen = {}
        for seed in range(300):
            source = random.Random(seed)
            calls, expected = random_calls(source, source.choice((5, 40, 60, 120)), Model())
            flat = line(calls)
            got = parted(answers(flat))
            self.assertEqual(flat, line(calls))
            for k, call in enumerate(calls):
                self.assertEqual(got[k], expected[k], (seed, k, calls[:k + 1]))
                seen[call[0], expected[k][0]] = True
            self.assertEqual(len(got), len(calls))
            self.assertEqual(parted(answers(flat)), got)
        # The lists are only worth something if they reach the answers.
        kinds = range(20)
        reached = [(kind, 0) for kind in kinds] + [(kind, -1) for kind in kinds if kind in RANGES or kind in ROWS]
        reached += [(kind, -3) for kind in BEFORE + AFTER]
        reached += [(kind, -4) for kind in (WITHDRAW, AGAIN, TAKEN, VALUE, FORESEE, UNIT, AVAIL, TRY, QUARTER)]
        reached += [(kind, -5) for kind in (VALUE, AVAIL, TRY)]
        self.assertEqual([pair for pair in reached if pair not in seen], [])

    def test_long_lists(self):
        """400 calls, few of them open and none of them undone: many quarters, with avail in between."""
        for seed in range(12):
            source = random.Random(1000 + seed)
            model = Model()
            calls = [(OPEN, 9, 9)] + [random_offer(source) for k in range(6)] + [(BUY,)]
            told = [model.answer(call) for call in calls]
            while len(calls) < 400:
                call = random_call(source, len(calls), model)
                if call[0] not in (OPEN, AGAIN):
                    calls.append(call)
                    told.append(model.answer(call))
            got = parted(answers(line(calls)))
            for k, call in enumerate(calls):
                self.assertEqual(got[k], told[k], (seed, k, call))
            self.assertGreater(len(model.log), 40)


class Undoing(unittest.TestCase):
    def test_buy_again_offer_buy(self):
        told = ask((OPEN, 6, 2), up(4, 5, 30), down(3, 2, 10), (BUY,), (AGAIN,), up(4, 1, 20), (BUY,), (BOUGHT, 0),
                   (BOUGHT, 1), (AGAIN,), (WITHDRAW, 1), up(9, 0, 40, whole=1), (BUY,), (BOUGHT, 0), (CALL, 3),
                   (AGAIN,), (CALL, -9))
        self.assertEqual(told[3:], [
            [0, -2, 0, 24], [0], [0, 3], [0, 0, 0, 18], [0, 2, 4], [0, 2], [0], [0], [0, 4], [0, 3, 0, 4],
            [0, 0, 9], [0, 3, 40, 120], [-4], [0, -2, 10, -20]])

    def test_units_begin_anew(self):
        # Bought again, the unit has what was now taken, not what was taken before.
        told = ask((OPEN, 6, 0), up(9, 0, 5), (BUY,), (AGAIN,), (NEED, 0, 8), (BUY,), (TAKEN, 1), (CALL, 9))
        self.assertEqual(told[-2:], [[0, 8], [0, 8, 5, 40]])


if __name__ == "__main__":
    unittest.main()
