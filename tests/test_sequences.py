"""Whole lists of calls: how they are read, what is kept, and random lists against a plain model."""

import copy
import itertools
import random
import unittest

from reserves.desk import answers
from reserves.reading import is_in_range, read_calls
from tests.lines import (AGAIN, AVAIL, BIG, BOOK, BOUGHT, BUY, CALL, COSTS, FORESEE, LADDER, NEED, OFFER, OPEN,
                         PLACES, QUARTER, REACH, TAKEN, TRY, UNIT, VALUE, WITHDRAW, ask, down, line, parted, up)


class Reading(unittest.TestCase):
    def test_every_call_is_read_to_its_end(self):
        """A call behind any of the twenty, with lists of all lengths, is answered as by itself."""
        lists = [[], [4], [0, 5, 0], list(range(24)), [4] * 25, [0] * 96, [1] * 97, [BIG, -BIG] * 50]
        ahead = [up(5), (WITHDRAW, 4), (NEED, 4, 4), (BUY,), (AGAIN,), (TAKEN, 4), (BOUGHT, 4), (CALL, 4),
                 (UNIT, 4), (AVAIL, 4, 4), (REACH, 4), (LADDER,), (PLACES,), (QUARTER, 4), (COSTS,), (BOOK,),
                 (OPEN, -4, 4)]
        for row in lists:
            ahead += [(VALUE, 4, row), (FORESEE, row), (TRY, row)]
        behind = [(OPEN, 3, 0), up(5, 2), (BUY,), (TAKEN, 1)]
        for call in ahead:
            told = ask(call, *behind)
            self.assertEqual(len(told[0]), 1)
            self.assertLess(told[0][0], 0)
            self.assertEqual(told[1:], [[0], [0, 1], [0, 0, 0, 6], [0, 3]], call)

    def test_answers_stand_behind_their_counts(self):
        calls = line([(OPEN, 3, 1), up(5, 2, 9), down(4, 1, 8, whole=1), (BUY,), (BOUGHT, 0), (CALL, 2), (BUY,)])
        self.assertEqual(answers(calls), [1, 0, 2, 0, 1, 2, 0, 2, 4, 0, 0, 3, 10, 2, 0, 3, 4, 0, 2, 9, 18, 1, -3])

    def test_ranges_of_the_calls_yet_to_come(self):
        target, place = 10 ** 11, 10 ** 9
        inside = [(FORESEE, []), (FORESEE, [0] * 96), (FORESEE, [-target, target]), (UNIT, -BIG), (UNIT, BIG),
                  (AVAIL, -BIG, 0), (AVAIL, BIG, 10 ** 9), (REACH, 1), (REACH, 1000), (LADDER,), (PLACES,),
                  (TRY, []), (TRY, [0] * 24), (TRY, [-place, place]), (QUARTER, 1), (QUARTER, 96), (COSTS,), (BOOK,)]
        beyond = [(FORESEE, [0] * 97), (FORESEE, [0, -target - 1]), (FORESEE, [target + 1]), (UNIT, -BIG - 1),
                  (UNIT, BIG + 1), (AVAIL, -BIG - 1, 0), (AVAIL, BIG + 1, 0), (AVAIL, 1, -1), (AVAIL, 1, 10 ** 9 + 1),
                  (REACH, 0), (REACH, 1001), (TRY, [0] * 25), (TRY, [0, -place - 1]), (TRY, [place + 1]),
                  (QUARTER, 0), (QUARTER, 97), (20,), (-1,)]
        self.assertEqual([is_in_range(call) for call in read_calls(line(inside))], [True] * len(inside))
        self.assertEqual([is_in_range(call) for call in read_calls(line(beyond))], [False] * len(beyond))

    def test_four_hundred_calls(self):
        told = ask((OPEN, 0, 0), *[(VALUE, 0, [0] * 100)] * 150, *[(NEED, 0, 1)] * 249)
        self.assertEqual(told, [[0]] + [[-1]] * 150 + [[0]] * 249)


class NothingKept(unittest.TestCase):
    def setUp(self):
        self.calls = line([(OPEN, 9, 4), up(8, 3, 20, 2), down(6, 2, 10, 3, 1), up(7, 1, 30), (VALUE, 0, [5, 4]),
                           (BUY,), (AGAIN,), up(2, 0, 5), (BUY,), (BOUGHT, 0), (CALL, 5), (CALL, -3), (TAKEN, 2),
                           (AGAIN,)])

    def test_what_is_handed_in_is_the_same_afterwards(self):
        before = copy.deepcopy(self.calls)
        answers(self.calls)
        self.assertEqual(self.calls, before)

    def test_the_same_list_twice(self):
        first = answers(self.calls)
        self.assertEqual(answers(self.calls), first)
        answers(line([(OPEN, 1, 1), up(1)]))
        self.assertEqual(answers(self.calls), first)

    def test_an_answer_that_was_changed_is_not_seen_again(self):
        first = answers(self.calls)
        kept = list(first)
        first.clear()
        self.assertEqual(answers(self.calls), kept)

    def test_each_list_begins_with_nothing_open(self):
        answers(self.calls)
        self.assertEqual(answers([BUY]), [1, -2])

    def test_whole_numbers_in_a_list(self):
        told = answers(self.calls)
        self.assertIs(type(told), list)
        self.assertEqual({type(number) for number in told}, {int})


RANGES = {
    OPEN: [(0, 10 ** 11)] * 2,
    OFFER: [(0, 1), (1, 10 ** 9), (0, 10 ** 6), (-10 ** 6, 10 ** 6), (1, 10 ** 9), (0, 1)],
    WITHDRAW: [(-BIG, BIG)],
    NEED: [(0, 1), (0, 10 ** 11)],
    TAKEN: [(-BIG, BIG)],
    BOUGHT: [(0, 1)],
    VALUE: [(0, 1)],
    CALL: [(-10 ** 11, 10 ** 11)],
}


class Model:
    """The ten calls as the words tell them, by search and step by step, for small numbers alone."""

    def __init__(self):
        self.needs = None

    def answer(self, call):
        kind = call[0]
        row = call[-1] if kind == VALUE else []
        for number, (least, greatest) in zip(call[1:], RANGES.get(kind, [])):
            if not least <= number <= greatest:
                return [-1]
        if len(row) > 24 or any(not 0 <= number <= 10 ** 9 for number in row):
            return [-1]
        if kind == OPEN:
            self.needs, self.offers, self.given = list(call[1:]), [], 0
            self.taken, self.quarters = None, 0
            return [0]
        if self.needs is None:
            return [-2]
        if kind in (OFFER, WITHDRAW, NEED, BUY) and self.taken is not None:
            return [-3]
        if kind in (AGAIN, TAKEN, BOUGHT, CALL) and self.taken is None:
            return [-3]
        return getattr(self, "call_%d" % kind)(*call[1:])

    def side(self, direction):
        return [offer for offer in self.offers if offer[1] == direction]

    def call_1(self, direction, q, capacity, energy, ramp, whole):
        if len(self.offers) == 24:
            return [-4]
        if whole and len([offer for offer in self.side(direction) if offer[6]]) == 8:
            return [-5]
        self.given += 1
        self.offers.append((self.given, direction, q, capacity, energy, ramp, whole))
        return [0, self.given]

    def call_2(self, number):
        if number not in [offer[0] for offer in self.offers]:
            return [-4]
        self.offers = [offer for offer in self.offers if offer[0] != number]
        return [0]

    def call_3(self, direction, q):
        self.needs[direction] = q
        return [0]

    def call_4(self):
        self.taken, self.places = {}, {}
        beyond, cost = [], 0
        for direction in (0, 1):
            side = self.side(direction)
            ways = itertools.product(*[(0, offer[2]) if offer[6] else range(offer[2] + 1) for offer in side])
            ranked = [(sum(a * offer[3] for a, offer in zip(way, side)), sum(way), [-a for a in way])
                      for way in ways if sum(way) >= self.needs[direction]]
            best = [-a for a in min(ranked)[2]] if ranked else [offer[2] for offer in side]
            beyond.append(sum(best) - self.needs[direction])
            cost += sum(a * offer[3] for a, offer in zip(best, side))
            self.taken.update({offer[0]: a for offer, a in zip(side, best)})
        self.places = dict.fromkeys(self.taken, 0)
        return [0] + beyond + [cost]

    def call_5(self):
        if self.quarters:
            return [-4]
        self.taken = None
        return [0]

    def call_6(self, number):
        return [0, self.taken[number]] if number in self.taken else [-4]

    def call_7(self, direction):
        return [0] + [self.taken[offer[0]] for offer in self.side(direction)]

    def call_8(self, direction, row):
        side = self.side(direction)
        if len(row) != len(side):
            return [-4]
        if sum(row) < self.needs[direction]:
            return [-5]
        for amount, offer in zip(row, side):
            if amount > offer[2] or offer[6] and amount not in (0, offer[2]):
                return [-5]
        return [0, sum(amount * offer[3] for amount, offer in zip(row, side))]

    def call_9(self, target):
        if self.quarters == 96:
            return [-4]
        self.quarters += 1
        low, high = {}, {}
        for number, direction, q, capacity, energy, ramp, whole in self.offers:
            stand, left = abs(self.places[number]), self.taken[number]
            ends = [min(max(stand - ramp, 0), left), min(stand + ramp, left)]
            low[number], high[number] = ends if direction == 0 else [-ends[1], -ends[0]]
        price = min([offer[4] for offer in self.offers if low[offer[0]] < high[offer[0]]], default=0)
        self.places = dict(low)
        while sum(self.places.values()) < target:
            room = [(offer[4], offer[0]) for offer in self.offers if self.places[offer[0]] < high[offer[0]]]
            if not room:
                break
            price, number = min(room)
            self.places[number] += 1
        cost = 0
        for offer in self.offers:
            place = self.places[offer[0]]
            own = place > 0 and offer[4] > price or place < 0 and offer[4] < price
            cost += place * (offer[4] if own else price)
        return [0, sum(self.places.values()), price, cost]


def random_calls(source, how_many, model):
    """Calls with small numbers, now and then a wrong one, with what the model answers to each."""
    calls, told = [], []
    for k in range(how_many):
        call = random_call(source, k, model)
        calls.append(call)
        told.append(model.answer(call))
    return calls, told


def random_call(source, k, model):
    bought = model.needs is not None and model.taken is not None
    many = model.needs is not None and len(model.offers) >= 6
    weights = [1, 0 if many else 20, 6, 6, 6, 4, 4, 4, 8, 3]
    if bought:
        weights = [1, 1, 1, 1, 1, 3, 4, 4, 4, 12]
    kind = OPEN if k == 0 and source.random() < 0.95 else source.choices(range(10), weights)[0]
    if kind == VALUE:
        return (kind, wrong_at_times(source, source.randint(0, 1), kind, 0), random_row(source, model))
    plain = {
        OPEN: lambda: [source.randint(0, 9), source.randint(0, 9)],
        OFFER: lambda: [source.randint(0, 1), source.randint(1, 5), source.randint(0, 3), source.randint(-3, 3),
                        source.randint(1, 4), source.randint(0, 1)],
        WITHDRAW: lambda: [source.randint(0, 9)],
        NEED: lambda: [source.randint(0, 1), source.randint(0, 12)],
        TAKEN: lambda: [source.randint(0, 9)],
        BOUGHT: lambda: [source.randint(0, 1)],
        CALL: lambda: [source.randint(-14, 14)],
    }
    numbers = plain[kind]() if kind in plain else []
    return (kind, *[wrong_at_times(source, number, kind, at) for at, number in enumerate(numbers)])


def wrong_at_times(source, number, kind, at):
    if source.random() < 0.99:
        return number
    least, greatest = RANGES[kind][at]
    return source.choice((least - 1, greatest + 1))


def random_row(source, model):
    if model.needs is None or source.random() < 0.2:
        return [source.randint(0, 5) for k in range(source.choice((0, 1, 2, 3, 24, 25)))]
    row = [source.choice((offer[2], offer[2], offer[2], 0, 2)) for offer in model.side(source.randint(0, 1))]
    if row and source.random() < 0.05:
        row[source.randrange(len(row))] = source.choice((-1, 10 ** 9, 10 ** 9 + 1))
    return row


class AgainstTheModel(unittest.TestCase):
    def test_random_lists(self):
        seen = {}
        for seed in range(300):
            source = random.Random(seed)
            calls, expected = random_calls(source, source.choice((5, 40, 60)), Model())
            got = parted(answers(line(calls)))
            for k, call in enumerate(calls):
                self.assertEqual(got[k], expected[k], (seed, k, calls[:k + 1]))
                seen[call[0], expected[k][0]] = True
            self.assertEqual(len(got), len(calls))
        # The lists are only worth something if they reach the answers.
        reached = [(OPEN, 0), (OPEN, -1), (OFFER, 0), (OFFER, -1), (OFFER, -2), (OFFER, -3), (WITHDRAW, 0),
                   (WITHDRAW, -3), (WITHDRAW, -4), (NEED, 0), (NEED, -1), (NEED, -3), (BUY, 0), (BUY, -3), (AGAIN, 0),
                   (AGAIN, -3), (AGAIN, -4), (TAKEN, 0), (TAKEN, -3), (TAKEN, -4), (BOUGHT, 0), (BOUGHT, -3),
                   (VALUE, 0), (VALUE, -1), (VALUE, -4), (VALUE, -5), (CALL, 0), (CALL, -1), (CALL, -3)]
        self.assertEqual([pair for pair in reached if pair not in seen], [])


class Undoing(unittest.TestCase):
    def test_buy_again_offer_buy(self):
        told = ask((OPEN, 6, 2), up(4, 5, 30), down(3, 2, 10), (BUY,), (AGAIN,), up(4, 1, 20), (BUY,), (BOUGHT, 0),
                   (BOUGHT, 1), (AGAIN,), (WITHDRAW, 1), up(9, 0, 40, whole=1), (BUY,), (BOUGHT, 0), (CALL, 3),
                   (AGAIN,), (CALL, -9))
        self.assertEqual(told[3:], [
            [0, -2, 0, 24], [0], [0, 3], [0, 0, 0, 18], [0, 2, 4], [0, 2], [0], [0], [0, 4], [0, 3, 0, 4],
            [0, 0, 9], [0, 3, 40, 120], [-4], [0, -2, 10, -20]])

    def test_units_begin_anew(self):
        # Bought again, the unit has what was now taken, not what was taken before.
        told = ask((OPEN, 6, 0), up(9, 0, 5), (BUY,), (AGAIN,), (NEED, 0, 8), (BUY,), (TAKEN, 1), (CALL, 9))
        self.assertEqual(told[-2:], [[0, 8], [0, 8, 5, 40]])


if __name__ == "__main__":
    unittest.main()
