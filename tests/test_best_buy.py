"""The best buy, against a search through all buys and, for many offers, a search need by need."""

import itertools
import random
import time
import unittest

from tests.lines import AGAIN, BOUGHT, BUY, NEED, OFFER, OPEN, VALUE, ask

# An offer here is (q, capacity price, whole).


def possible(offer):
    return (0, offer[0]) if offer[2] else range(offer[0] + 1)


def worth(offers, amounts):
    """The less the better: cost, sum of amounts, then the earliest offers' amounts."""
    cost = sum(amount * offer[1] for amount, offer in zip(amounts, offers))
    return (cost, sum(amounts), [-amount for amount in amounts])


def search_all(offers, need):
    buys = itertools.product(*[possible(offer) for offer in offers])
    covering = [buy for buy in buys if sum(buy) >= need]
    if not covering:
        return [offer[0] for offer in offers]
    return list(min(covering, key=lambda buy: worth(offers, buy)))


def search_by_need(offers, need):
    """From the last offer to the first: the best way to cover each need with the offers behind."""
    if sum(offer[0] for offer in offers) < need:
        return [offer[0] for offer in offers]
    best = {0: (0, 0, ())}
    for q, price, whole in reversed(offers):
        longer = {}
        for wanted in range(need + 1):
            ways = []
            for amount in possible((q, price, whole)):
                rest = best.get(max(wanted - amount, 0))
                if rest is not None:
                    ways.append((rest[0] + amount * price, rest[1] + amount, (-amount,) + rest[2]))
            if ways:
                longer[wanted] = min(ways)
        best = longer
    return [-amount for amount in best[need][2]]


def bought(ups, downs, need_up, need_down):
    """What's bought up and down, and what buy answers; the directions' offers take turns."""
    calls = [(OPEN, need_up, need_down)]
    for pair in itertools.zip_longest([(0, offer) for offer in ups], [(1, offer) for offer in downs]):
        calls += [(OFFER, side[0], side[1][0], side[1][1], 0, 1, side[1][2]) for side in pair if side]
    told = ask(*calls, (BUY,), (BOUGHT, 0), (BOUGHT, 1))
    return told[-2][1:], told[-1][1:], told[-3]


class BestBuy(unittest.TestCase):
    def check(self, ups, downs, need_up, need_down, search):
        got_up, got_down, answer = bought(ups, downs, need_up, need_down)
        case = (ups, downs, need_up, need_down)
        self.assertEqual(got_up, search(ups, need_up), case)
        self.assertEqual(got_down, search(downs, need_down), case)
        cost = worth(ups, got_up)[0] + worth(downs, got_down)[0]
        self.assertEqual(answer, [0, sum(got_up) - need_up, sum(got_down) - need_down, cost], case)

    def one(self, offers, need):
        self.check(offers, [], need, 0, search_all)
        self.check([], offers, 0, need, search_all)
        return bought(offers, [], need, 0)[0]

    def test_need_of_0_buys_nothing(self):
        self.assertEqual(self.one([(3, 0, 0), (2, 0, 1), (1, 5, 0)], 0), [0, 0, 0])

    def test_equal_prices_go_to_the_earliest(self):
        self.assertEqual(self.one([(3, 2, 0), (3, 2, 0), (3, 2, 0)], 4), [3, 1, 0])

    def test_price_0(self):
        self.assertEqual(self.one([(3, 0, 0), (5, 0, 1), (3, 0, 0)], 4), [3, 0, 1])
        self.assertEqual(self.one([(5, 0, 1), (4, 1, 0)], 4), [5, 0])

    def test_less_cost_before_less_sum(self):
        self.assertEqual(self.one([(4, 3, 0), (5, 2, 1)], 4), [0, 5])

    def test_less_sum_before_order_of_entry(self):
        self.assertEqual(self.one([(6, 2, 1), (4, 3, 1)], 4), [0, 4])
        self.assertEqual(self.one([(5, 0, 1), (4, 0, 1)], 4), [0, 4])

    def test_order_of_entry_between_whole_and_parts(self):
        self.assertEqual(self.one([(2, 1, 0), (4, 1, 1), (4, 1, 0)], 5), [2, 0, 3])
        self.assertEqual(self.one([(1, 1, 0), (4, 1, 1), (4, 1, 0)], 5), [1, 4, 0])
        self.assertEqual(self.one([(4, 1, 1), (3, 1, 1), (2, 1, 1), (1, 1, 1)], 5), [4, 0, 0, 1])

    def test_whole_beyond_the_need(self):
        self.assertEqual(self.one([(9, 1, 1), (3, 4, 0)], 2), [0, 2])
        self.assertEqual(self.one([(9, 1, 1), (3, 4, 0)], 3), [9, 0])

    def test_cheap_whole_left_out_for_the_whole_of_it(self):
        self.assertEqual(self.one([(3, 2, 1), (4, 3, 1), (2, 4, 0)], 4), [3, 0, 1])

    def test_no_buy_covers(self):
        self.assertEqual(self.one([(3, 0, 0), (2, 7, 1)], 6), [3, 2])
        self.assertEqual(self.one([], 1), [])

    def test_small_cases(self):
        source = random.Random(1)
        for case in range(1500):
            sides = []
            for side in (0, 1):
                most_price = source.choice((0, 1, 2, 5))
                sides.append([(source.randint(1, 5), source.randint(0, most_price), source.randint(0, 1))
                              for offer in range(source.randint(0, 4))])
            needs = [source.randint(0, sum(offer[0] for offer in side) + 1) for side in sides]
            self.check(sides[0], sides[1], needs[0], needs[1], search_all)

    def test_the_two_searches_agree(self):
        source = random.Random(2)
        for case in range(300):
            offers = [(source.randint(1, 4), source.randint(0, 2), source.randint(0, 1)) for offer in range(4)]
            need = source.randint(0, 17)
            self.assertEqual(search_by_need(offers, need), search_all(offers, need))

    def test_twenty_four_offers(self):
        source = random.Random(3)
        for case in range(25):
            most_price = source.choice((0, 1, 3, 20))
            wholes = [1] * 8 + [0] * 4
            sides = []
            for side in (0, 1):
                source.shuffle(wholes)
                sides.append([(source.randint(1, 9), source.randint(0, most_price), whole) for whole in wholes])
            needs = [source.randint(0, sum(offer[0] for offer in side)) for side in sides]
            self.check(sides[0], sides[1], needs[0], needs[1], search_by_need)

    def test_twenty_four_offers_of_one_direction(self):
        source = random.Random(4)
        for case in range(10):
            wholes = [1] * 8 + [0] * 16
            source.shuffle(wholes)
            offers = [(source.randint(1, 9), source.randint(0, 4), whole) for whole in wholes]
            self.check(offers, [], source.randint(1, 100), 0, search_by_need)

    def test_no_other_buy_that_covers_costs_less(self):
        """Promise 2, asked through value: buys that cover, at great amounts."""
        source = random.Random(5)
        for case in range(20):
            offers = [(source.randint(1, 10 ** 9), source.randint(0, 10 ** 6), int(k < 8)) for k in range(24)]
            source.shuffle(offers)
            need = source.randint(1, sum(offer[0] for offer in offers))
            tries = []
            for k in range(60):
                share = source.randint(1, 100)
                tries.append([source.choice((0, q)) if whole else q * share // 100 for q, price, whole in offers])
            calls = [(OPEN, need, 0)] + [(OFFER, 0, q, price, 0, 1, whole) for q, price, whole in offers]
            told = ask(*calls, (BUY,), *[(VALUE, 0, amounts) for amounts in tries])
            cost = told[25][3]
            self.assertGreaterEqual(told[25][1], 0)
            for amounts, answer in zip(tries, told[26:]):
                self.assertEqual(answer[0], 0 if sum(amounts) >= need else -5)
                if answer[0] == 0:
                    self.assertGreaterEqual(answer[1], cost)


class InTime(unittest.TestCase):
    def test_buying_again_and_again(self):
        """400 calls: 24 offers with 8 whole ones in each direction, then buying and undoing it."""
        for price in (lambda k: 5, lambda k: 0, lambda k: k * 7919 % 101):
            offers = [(OFFER, k % 2, 10 ** 8 + k % 5, price(k), 0, 1, int(k < 16)) for k in range(24)]
            calls = [(OPEN, 5 * 10 ** 8, 6 * 10 ** 8)] + offers + [(BUY,), (AGAIN,)] * 187
            began = time.perf_counter()
            told = ask(*calls, (BUY,))
            self.assertLess(time.perf_counter() - began, 20)
            self.assertEqual(len(told), 400)
            self.assertEqual(told[25][0], 0)
            for k in range(25, 399, 2):
                self.assertEqual(told[k], told[25])
                self.assertEqual(told[k + 1], [0])

    def test_buying_again_with_another_need(self):
        offers = [(7, 3, 1), (5, 2, 1), (4, 2, 0), (9, 1, 1), (3, 0, 0)]
        calls = [(OPEN, 0, 0)] + [(OFFER, 0, q, price, 0, 1, whole) for q, price, whole in offers]
        for need in range(30):
            calls += [(NEED, 0, need), (BUY,), (BOUGHT, 0), (AGAIN,)]
        told = ask(*calls)
        for need in range(30):
            self.assertEqual(told[6 + 4 * need + 2], [0] + search_all(offers, need))


if __name__ == "__main__":
    unittest.main()
