"""call: where the units stand in a quarter, the price, what the units are paid, 96 quarters."""

import itertools
import random
import unittest

from tests.lines import AGAIN, BIG, BUY, CALL, OPEN, TAKEN, ask, down, last, up

MOST_TARGET = 100000000000


def quarters(offers, targets, needs=(MOST_TARGET, MOST_TARGET)):
    """The answers of the calls; by default no buy covers, so all that's offered is bought."""
    told = ask((OPEN, *needs), *offers, (BUY,), *[(CALL, target) for target in targets])
    return told[2 + len(offers):]


class Places(unittest.TestCase):
    """Every unit is bought whole here; what's called shows where the units stand together."""

    def test_up_alone(self):
        offers = [up(10, energy=30), up(5, energy=20)]
        self.assertEqual(quarters(offers, [3, 5, 8, 15, 16, 0, -1]), [
            [0, 3, 20, 60], [0, 5, 20, 100], [0, 8, 30, 240], [0, 15, 30, 450], [0, 15, 30, 450],
            [0, 0, 20, 0], [0, 0, 20, 0]])

    def test_down_alone(self):
        offers = [down(10, energy=30), down(5, energy=20)]
        self.assertEqual(quarters(offers, [0, -10, -11, -15, -16, 1]), [
            [0, 0, 30, 0], [0, -10, 20, -200], [0, -11, 20, -220], [0, -15, 20, -300], [0, -15, 20, -300],
            [0, 0, 30, 0]])

    def test_up_and_down_together(self):
        offers = [up(10, energy=50), down(6, energy=40), up(4, energy=10), down(3, energy=60)]
        self.assertEqual(quarters(offers, [-9, -6, -5, 1, 11, 14, 15]), [
            [0, -9, 10, -90],
            [0, -6, 10, -60],
            [0, -5, 10, -50],
            [0, 1, 40, 4 * 40 - 3 * 40],
            [0, 11, 50, 550],
            [0, 14, 60, 840],
            [0, 14, 60, 840]])

    def test_ramp_binds_upwards(self):
        offers = [up(10, energy=20, ramp=4), up(10, energy=30, ramp=3)]
        self.assertEqual(quarters(offers, [20, 20, 20, 20, 20]), [
            [0, 7, 30, 210], [0, 14, 30, 420], [0, 19, 30, 570], [0, 20, 30, 600], [0, 20, 30, 600]])

    def test_ramp_binds_downwards(self):
        offers = [up(10, energy=20, ramp=4)]
        self.assertEqual(quarters(offers, [9, 9, 9, 0, 0, 0, 0]), [
            [0, 4, 20, 80], [0, 8, 20, 160], [0, 9, 20, 180], [0, 5, 20, 100], [0, 1, 20, 20], [0, 0, 20, 0],
            [0, 0, 20, 0]])

    def test_ramp_of_a_unit_down(self):
        offers = [down(10, energy=20, ramp=4)]
        self.assertEqual(quarters(offers, [-9, -9, -9, 0, 0, 0, 0]), [
            [0, -4, 20, -80], [0, -8, 20, -160], [0, -9, 20, -180], [0, -5, 20, -100], [0, -1, 20, -20],
            [0, 0, 20, 0], [0, 0, 20, 0]])

    def test_no_more_than_was_bought(self):
        self.assertEqual(quarters([up(10, energy=7)], [9], needs=(4, 0)), [[0, 4, 7, 28]])
        self.assertEqual(quarters([down(10, energy=7)], [-9], needs=(0, 4)), [[0, -4, 7, -28]])
        self.assertEqual(quarters([up(10, energy=7), down(9, energy=8)], [9, -9], needs=(0, 0)), [[0, 0, 0, 0]] * 2)

    def test_equal_energy_prices_the_earlier_first(self):
        # The ramps tell the two apart: the first can come back at once, the second by 1 alone.
        slow, quick = up(10, energy=5, ramp=1), up(10, energy=5, ramp=10)
        self.assertEqual(quarters([quick, slow], [10, 0]), [[0, 10, 5, 50], [0, 0, 5, 0]])
        self.assertEqual(quarters([slow, quick], [1, 2, 3, 0]),
                         [[0, 1, 5, 5], [0, 2, 5, 10], [0, 3, 5, 15], [0, 2, 5, 10]])

    def test_energy_prices_below_0(self):
        offers = [up(5, energy=-10), up(5, energy=3), down(4, energy=-20)]
        self.assertEqual(quarters(offers, [-4, -1, 0, 1, 5, 6, 10]), [
            [0, -4, -20, 80], [0, -1, -20, 20], [0, 0, -20, 0], [0, 1, -10, -10], [0, 5, -10, -50], [0, 6, 3, 18],
            [0, 10, 3, 30]])


class Targets(unittest.TestCase):
    def test_below_all_lowest_places(self):
        offers = [up(9, energy=8, ramp=2), down(9, energy=6, ramp=3)]
        self.assertEqual(quarters(offers, [2, -100]), [[0, 2, 8, 16], [0, -3, 6, -18]])
        self.assertEqual(quarters(offers, [-3, -6]), [[0, -3, 6, -18], [0, -6, 6, -36]])

    def test_at_the_sum_of_the_lowest_places_and_one_above(self):
        offers = [up(9, energy=8, ramp=2), down(9, energy=6, ramp=3)]
        self.assertEqual(quarters(offers, [-3]), [[0, -3, 6, -18]])
        self.assertEqual(quarters(offers, [-2]), [[0, -2, 6, -12]])

    def test_at_the_sum_of_the_highest_places_and_one_above(self):
        offers = [up(9, energy=8, ramp=2), down(9, energy=6, ramp=3)]
        self.assertEqual(quarters(offers, [2]), [[0, 2, 8, 16]])
        self.assertEqual(quarters(offers, [3]), [[0, 2, 8, 16]])

    def test_edges(self):
        offers = [up(9, energy=8), down(9, energy=6)]
        self.assertEqual(quarters(offers, [MOST_TARGET, -MOST_TARGET]), [[0, 9, 8, 72], [0, -9, 6, -54]])
        for wrong in (MOST_TARGET + 1, -MOST_TARGET - 1, BIG, -BIG):
            self.assertEqual(quarters(offers, [wrong]), [[-1]])


class Price(unittest.TestCase):
    def test_none_is_raised(self):
        # The least of those that could be raised, though a unit without room has a lesser price.
        offers = [up(9, energy=8), up(9, energy=5), down(9, energy=30)]
        self.assertEqual(quarters(offers, [-9]), [[0, -9, 5, -45]])
        told = ask((OPEN, 1, 0), up(9, 1, energy=8), up(9, 2, energy=5), (BUY,), (CALL, 0))
        self.assertEqual(told[-1], [0, 0, 8, 0])

    def test_none_can_be_raised(self):
        self.assertEqual(quarters([], [0, 5, -5]), [[0, 0, 0, 0]] * 3)
        self.assertEqual(quarters([up(3, energy=7)], [5], needs=(0, 0)), [[0, 0, 0, 0]])
        self.assertEqual(quarters([down(3, energy=-7)], [-5], needs=(0, 0)), [[0, 0, 0, 0]])

    def test_the_last_that_was_raised_not_the_next(self):
        self.assertEqual(quarters([up(3, energy=7), up(3, energy=9)], [3]), [[0, 3, 7, 21]])
        self.assertEqual(quarters([up(3, energy=7), up(3, energy=9)], [4]), [[0, 4, 9, 36]])

    def test_a_unit_without_room_is_not_raised(self):
        told = ask((OPEN, 3, 0), up(3, 1, energy=7), up(3, 2, energy=9), (BUY,), (CALL, 3), (CALL, 4))
        self.assertEqual(told[-2:], [[0, 3, 7, 21], [0, 3, 7, 21]])


class Payments(unittest.TestCase):
    def test_a_unit_up_above_the_price_is_paid_its_own(self):
        offers = [up(10, energy=10), up(5, energy=90, ramp=5)]
        self.assertEqual(quarters(offers, [15, 3]), [[0, 15, 90, 1350], [0, 3, 10, 30]])
        # With this ramp the dear unit comes down from 2 to 1 alone, while the price is 10.
        offers = [up(10, energy=10), up(5, energy=90, ramp=1)]
        self.assertEqual(quarters(offers, [11, 12, 5]),
                         [[0, 11, 90, 990], [0, 12, 90, 1080], [0, 5, 10, 4 * 10 + 1 * 90]])

    def test_a_unit_down_below_the_price_pays_its_own(self):
        # The cheap unit goes up by its ramp alone, so it still stands at -3 while the price is 50.
        offers = [down(5, energy=10, ramp=2), up(9, energy=50)]
        self.assertEqual(quarters(offers, [-2, -4, -5, 0]), [
            [0, -2, 10, -20], [0, -4, 10, -40], [0, -5, 10, -50], [0, 0, 50, 3 * 50 - 3 * 10]])

    def test_a_unit_down_above_the_price_pays_the_price(self):
        offers = [down(5, energy=90), up(9, energy=50)]
        self.assertEqual(quarters(offers, [-1]), [[0, -1, 50, 4 * 50 - 5 * 50]])

    def test_a_unit_up_below_the_price_is_paid_the_price(self):
        offers = [up(5, energy=-90), up(9, energy=50)]
        self.assertEqual(quarters(offers, [6]), [[0, 6, 50, 300]])

    def test_own_price_below_0(self):
        # Raised by the unit at -50; the unit at -20 stands at 1 by its ramp and pays but 20.
        offers = [up(5, energy=-20, ramp=2), up(9, energy=-50)]
        self.assertEqual(quarters(offers, [11, 12, 4]),
                         [[0, 11, -20, -220], [0, 12, -20, -240], [0, 4, -50, -3 * 50 - 1 * 20]])

    def test_nothing_raised_and_own_prices_count(self):
        offers = [up(5, energy=70, ramp=2), up(9, energy=50, ramp=9)]
        self.assertEqual(quarters(offers, [11, 13, -5]),
                         [[0, 11, 70, 770], [0, 13, 70, 910], [0, 2, 50, 140]])

    def test_costs_beyond_two_to_the_53rd(self):
        offers = [up(10 ** 9, energy=10 ** 6)] * 12 + [down(10 ** 9, energy=-10 ** 6)] * 12
        cost = 12 * 10 ** 15
        self.assertGreater(cost, 2 ** 53)
        self.assertEqual(quarters(offers, [MOST_TARGET, -MOST_TARGET]),
                         [[0, 12 * 10 ** 9, 10 ** 6, cost], [0, -12 * 10 ** 9, -10 ** 6, cost]])


class Quarters(unittest.TestCase):
    def test_ninety_six_and_one_more(self):
        told = quarters([up(200, energy=2, ramp=1)], [200] * 98)
        self.assertEqual(told, [[0, k, 2, 2 * k] for k in range(1, 97)] + [[-4], [-4]])

    def test_refused_ones_do_not_count(self):
        told = quarters([up(200, energy=2, ramp=1)], [200] * 95 + [MOST_TARGET + 1] + [200] * 2)
        self.assertEqual(told[94:], [[0, 95, 2, 190], [-1], [0, 96, 2, 192], [-4]])

    def test_not_bought(self):
        self.assertEqual(last((OPEN, 0, 0), up(3), (CALL, 1)), [-3])

    def test_the_ninety_seventh_changes_nothing(self):
        told = ask((OPEN, 3, 0), up(3), (BUY,), *[(CALL, 1)] * 97, (TAKEN, 1), (AGAIN,))
        self.assertEqual(told[-3:], [[-4], [0, 3], [-4]])


def standings(unit, place):
    """All places where a unit (direction, taken, energy, ramp) can stand next, from the words."""
    direction, taken, energy, ramp = unit
    stand = abs(place)
    fewest = min(max(stand - ramp, 0), taken)
    most = min(stand + ramp, taken)
    return sorted(-s if direction else s for s in range(fewest, most + 1))


def step_by_step(units, places, target):
    """A quarter by raising one unit by one at a time."""
    reach = [standings(unit, place) for unit, place in zip(units, places)]
    stand = [ways[0] for ways in reach]
    price = min([unit[2] for unit, ways in zip(units, reach) if len(ways) > 1], default=0)
    while sum(stand) < target:
        room = [(unit[2], k) for k, unit in enumerate(units) if stand[k] < reach[k][-1]]
        if not room:
            break
        price, chosen = min(room)
        stand[chosen] += 1
    cost = 0
    for unit, place in zip(units, stand):
        # Never less than its own price: the greater of both is what the words come to.
        cost += max(place * price, place * unit[2])
    return stand, price, cost, reach


class AgainstASearch(unittest.TestCase):
    def test_small_cases(self):
        source = random.Random(6)
        for case in range(400):
            units = [(source.randint(0, 1), source.randint(1, 4), source.randint(-2, 2), source.randint(1, 4))
                     for k in range(source.randint(0, 4))]
            targets = [source.randint(-12, 12) for k in range(6)]
            offers = [(1, direction, taken, 0, energy, ramp, 0) for direction, taken, energy, ramp in units]
            told = quarters(offers, targets)
            places = [0] * len(units)
            for target, answer in zip(targets, told):
                places, price, cost, reach = step_by_step(units, places, target)
                self.assertEqual(answer, [0, sum(places), price, cost], (units, targets))
                self.check_promise(units, places, price, reach)

    def check_promise(self, units, places, price, reach):
        """Promise 3, of the places that the answers were just found to agree with."""
        def worth(ways):
            return sum(place * unit[2] for place, unit in zip(ways, units))
        for ways in itertools.product(*reach):
            if sum(ways) == sum(places):
                self.assertGreaterEqual(worth(ways), worth(places))
        for unit, place, room in zip(units, places, reach):
            if unit[2] < price:
                self.assertEqual(place, room[-1])
            if unit[2] > price:
                self.assertEqual(place, room[0])


if __name__ == "__main__":
    unittest.main()
