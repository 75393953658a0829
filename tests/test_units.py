"""unit, avail, places, ladder: where the units stand, what's left of them, what they were paid."""

import unittest

from tests.lines import (AGAIN, AVAIL, BIG, BUY, CALL, COSTS, FORESEE, LADDER, NEED, OPEN, PLACES, REACH, TAKEN, TRY,
                         UNIT, WITHDRAW, ask, down, last, up)

MOST = 1000000000
FAR = 100000000000

# Unit 1 up, ramp 4; unit 2 down, ramp 3; unit 3 up, ramp 6: all that's offered is bought.
THREE = [(OPEN, 20, 8), up(10, 1, 30, 4), down(8, 2, 10, 3), up(10, 3, 20, 6), (BUY,)]
# The unit stands at 4, 8, 10 (as far from 0, if it's down).
ONE_UP = [(OPEN, 10, 0), up(10, 0, 5, 4), (BUY,)] + [(CALL, 10)] * 3
ONE_DOWN = [(OPEN, 0, 10), down(10, 0, 5, 4), (BUY,)] + [(CALL, -10)] * 3


class Unit(unittest.TestCase):
    def test_just_bought(self):
        told = ask(*THREE, (UNIT, 1), (UNIT, 2), (UNIT, 3))
        self.assertEqual(told[5:], [[0, 10, 10, 0, 0, 4, 0, 0], [0, 8, 8, 0, -3, 0, 0, 0], [0, 10, 10, 0, 0, 6, 0, 0]])

    def test_over_several_quarters(self):
        units = [(UNIT, 1), (UNIT, 2), (UNIT, 3)]
        told = ask(*THREE, (CALL, 5), *units, (CALL, 9), *units, (CALL, 14), *units, (CALL, -10), *units,
                   (CALL, -10), *units)
        self.assertEqual(told[5::4], [[0, 5, 20, 100], [0, 9, 20, 180], [0, 14, 30, 420], [0, 1, 10, 50],
                                      [0, -6, 10, -60]])
        self.assertEqual(told[6::4], [
            [0, 10, 10, 0, 0, 4, 0, 0], [0, 10, 10, 0, 0, 4, 0, 0], [0, 10, 10, 4, 0, 8, 4, 120],
            [0, 10, 10, 0, 0, 4, 4, 120], [0, 10, 10, 0, 0, 4, 4, 120]])
        self.assertEqual(told[7::4], [
            [0, 8, 8, 0, -3, 0, 0, 0], [0, 8, 8, 0, -3, 0, 0, 0], [0, 8, 8, 0, -3, 0, 0, 0],
            [0, 8, 8, -3, -6, 0, -3, -30], [0, 8, 8, -6, -8, -3, -9, -90]])
        # In the fourth quarter the ramp holds unit 3 at 4, above the price: it's paid its own 20.
        self.assertEqual(told[8::4], [
            [0, 10, 10, 5, 0, 10, 5, 100], [0, 10, 10, 9, 3, 10, 14, 280], [0, 10, 10, 10, 4, 10, 24, 580],
            [0, 10, 10, 4, 0, 10, 28, 660], [0, 10, 10, 0, 0, 6, 28, 660]])

    def test_a_unit_down_below_the_price_pays_its_own(self):
        # It rises by its ramp alone and still stands at -3, while the price is 50.
        told = ask((OPEN, 9, 5), down(5, 0, 10, 2), up(9, 0, 50), (BUY,), *[(CALL, -5)] * 3, (UNIT, 1), (CALL, 0),
                   (UNIT, 1), (UNIT, 2))
        self.assertEqual(told[7:], [[0, 5, 5, -5, -5, -3, -11, -110], [0, 0, 50, 120],
                                    [0, 5, 5, -3, -5, -1, -14, -140], [0, 9, 9, 3, 0, 9, 3, 150]])

    def test_of_which_nothing_was_bought(self):
        told = ask((OPEN, 0, 0), up(9, 0, 5), down(9, 0, 5), (BUY,), (CALL, 4), (UNIT, 1), (UNIT, 2))
        self.assertEqual(told[-2:], [[0] * 8, [0] * 8])

    def test_in_part_bought(self):
        self.assertEqual(last((OPEN, 4, 0), up(9, 0, 5, 3), (BUY,), (CALL, 9), (CALL, 9), (UNIT, 1)),
                         [0, 4, 4, 4, 1, 4, 7, 35])

    def test_no_such_unit(self):
        told = ask((OPEN, 5, 0), up(9), up(9), (WITHDRAW, 1), (BUY,), (UNIT, 2), (UNIT, 1), (UNIT, 0), (UNIT, 3),
                   (UNIT, BIG), (UNIT, -BIG))
        self.assertEqual(told[5:], [[0, 5, 5, 0, 0, 5, 0, 0]] + [[-4]] * 5)
        self.assertEqual(last((OPEN, 5, 0), (BUY,), (UNIT, 1)), [-4])

    def test_beyond_two_to_the_53rd(self):
        told = ask((OPEN, MOST, MOST), up(MOST, 0, 10 ** 6, MOST), down(MOST, 0, -10 ** 6, MOST), (BUY,),
                   *[(CALL, FAR)] * 48, *[(CALL, -FAR)] * 48, (UNIT, 1), (UNIT, 2))
        self.assertEqual(told[-2:], [[0, MOST, MOST, 0, 0, MOST, 48 * MOST, 48 * 10 ** 15],
                                     [0, MOST, MOST, -MOST, -MOST, 0, -48 * MOST, 48 * 10 ** 15]])


class Avail(unittest.TestCase):
    def test_less_than_it_could_come_down_to(self):
        told = ask(*ONE_UP, (AVAIL, 1, 3), (UNIT, 1), (PLACES,), (LADDER,), (REACH, 1), (REACH, 2), (TRY, [3]),
                   (TRY, [4]), (TRY, [2]), (TRY, [10]), (FORESEE, [9]), (CALL, 0), (UNIT, 1))
        self.assertEqual(told[6:], [
            [0, 10], [0, 10, 3, 10, 3, 3, 22, 110], [0, 10], [0, 1], [0, 3, 3], [0, 0, 3], [0, 3, 15], [-5], [-5],
            [-5], [0, 3, 0, 15], [0, 3, 0, 15], [0, 10, 3, 3, 0, 3, 25, 125]])

    def test_less_than_a_unit_down_could_come_up_to(self):
        told = ask(*ONE_DOWN, (AVAIL, 1, 3), (UNIT, 1), (PLACES,), (LADDER,), (REACH, 1), (REACH, 2), (TRY, [-3]),
                   (TRY, [-4]), (TRY, [-2]), (TRY, [-10]), (FORESEE, [-9]), (CALL, 0), (UNIT, 1))
        self.assertEqual(told[6:], [
            [0, 10], [0, 10, 3, -10, -3, -3, -22, -110], [0, -10], [0, 1], [0, -3, -3], [0, -3, 0], [0, -3, -15],
            [-5], [-5], [-5], [0, -3, 0, 0], [0, -3, 0, 0], [0, 10, 3, -3, -3, 0, -25, -110]])

    def test_less_than_where_it_stands(self):
        told = ask(*ONE_UP, (AVAIL, 1, 8), (UNIT, 1), (REACH, 1), (TRY, [6]), (TRY, [8]), (TRY, [5]), (TRY, [9]),
                   (FORESEE, [7, 10]), (CALL, 10), (PLACES,))
        self.assertEqual(told[6:], [
            [0, 10], [0, 10, 8, 10, 6, 8, 22, 110], [0, 6, 8], [0, 6, 30], [0, 8, 40], [-5], [-5],
            [0, 7, 5, 35, 8, 5, 40], [0, 8, 5, 40], [0, 8]])
        told = ask(*ONE_DOWN, (AVAIL, 1, 8), (UNIT, 1), (REACH, 1), (TRY, [-6]), (TRY, [-8]), (TRY, [-5]),
                   (TRY, [-9]), (FORESEE, [-7, -10]), (CALL, -10), (PLACES,))
        self.assertEqual(told[6:], [
            [0, 10], [0, 10, 8, -10, -8, -6, -22, -110], [0, -8, -6], [0, -6, -30], [0, -8, -40], [-5], [-5],
            [0, -7, 5, -35, -8, 5, -40], [0, -8, 5, -40], [0, -8]])

    def test_just_what_it_could_come_down_to(self):
        told = ask(*ONE_UP, (AVAIL, 1, 6), (UNIT, 1), (CALL, 10), (UNIT, 1))
        self.assertEqual(told[7:], [[0, 10, 6, 10, 6, 6, 22, 110], [0, 6, 0, 30], [0, 10, 6, 6, 2, 6, 28, 140]])
        told = ask(*ONE_UP, (AVAIL, 1, 7), (UNIT, 1), (CALL, 10))
        self.assertEqual(told[7:], [[0, 10, 7, 10, 6, 7, 22, 110], [0, 7, 5, 35]])

    def test_0(self):
        for prefix, place in ((ONE_UP, 10), (ONE_DOWN, -10)):
            told = ask(*prefix, (AVAIL, 1, 0), (UNIT, 1), (PLACES,), (LADDER,), (REACH, 1), (REACH, 1000), (TRY, [0]),
                       (TRY, [1]), (TRY, [-1]), (FORESEE, [place]), (CALL, place), (PLACES,), (AVAIL, 1, 10),
                       (UNIT, 1))
            paid = 110 if place > 0 else -110
            places = 22 if place > 0 else -22
            ends = [0, 4] if place > 0 else [-4, 0]
            self.assertEqual(told[6:], [
                [0, 10], [0, 10, 0, place, 0, 0, places, paid], [0, place], [0], [0, 0, 0], [0, 0, 0], [0, 0, 0],
                [-5], [-5], [0, 0, 0, 0], [0, 0, 0, 0], [0, 0], [0, 0], [0, 10, 10, 0, *ends, places, paid]])

    def test_what_was_taken_and_one_more(self):
        told = ask((OPEN, 7, 4), up(10), down(9), (BUY,), (AVAIL, 1, 7), (AVAIL, 1, 8), (AVAIL, 1, 2), (AVAIL, 1, 8),
                   (AVAIL, 1, MOST), (AVAIL, 1, 7), (AVAIL, 1, 1), (AVAIL, 2, 5), (AVAIL, 2, 4), (AVAIL, 2, 0),
                   (AVAIL, 2, 3))
        self.assertEqual(told[4:], [[0, 7], [-5], [0, 7], [-5], [-5], [0, 2], [0, 7], [-5], [0, 4], [0, 4], [0, 0]])

    def test_what_was_taken_stays(self):
        told = ask(*ONE_UP, (AVAIL, 1, 3), (TAKEN, 1), (COSTS,), (AVAIL, 1, 11), (AVAIL, 1, 10))
        self.assertEqual(told[6:], [[0, 10], [0, 10], [0, 0, 110], [-5], [0, 3]])

    def test_of_which_nothing_was_bought(self):
        told = ask((OPEN, 0, 0), up(9), (BUY,), (AVAIL, 1, 0), (AVAIL, 1, 1))
        self.assertEqual(told[3:], [[0, 0], [-5]])

    def test_the_greatest(self):
        told = ask((OPEN, MOST, 0), up(MOST), (BUY,), (AVAIL, 1, MOST), (AVAIL, 1, 0), (AVAIL, 1, MOST),
                   (AVAIL, 1, MOST + 1), (AVAIL, 1, -1))
        self.assertEqual(told[3:], [[0, MOST], [0, MOST], [0, 0], [-1], [-1]])

    def test_no_such_unit_before_more_than_was_taken(self):
        told = ask((OPEN, 5, 0), up(9), up(9), (WITHDRAW, 1), (BUY,), (AVAIL, 1, MOST), (AVAIL, 0, 0), (AVAIL, 3, 1),
                   (AVAIL, BIG, MOST), (AVAIL, -BIG, 0), (UNIT, 2))
        self.assertEqual(told[5:], [[-4]] * 5 + [[0, 5, 5, 0, 0, 5, 0, 0]])

    def test_one_unit_alone(self):
        told = ask(*THREE, (AVAIL, 2, 1), (UNIT, 1), (UNIT, 2), (UNIT, 3), (REACH, 2), (CALL, -9), (PLACES,))
        self.assertEqual(told[6:], [
            [0, 10, 10, 0, 0, 4, 0, 0], [0, 8, 1, 0, -1, 0, 0, 0], [0, 10, 10, 0, 0, 6, 0, 0], [0, -1, 18],
            [0, -1, 10, -10], [0, 0, -1, 0]])

    def test_a_unit_without_room_tells_no_price(self):
        # Unit 1 has the lesser energy price, but nothing is left of it.
        told = ask((OPEN, 9, 0), up(4, 0, 5), up(5, 0, 8), (BUY,), (CALL, 0), (AVAIL, 1, 0), (CALL, 0), (CALL, 3))
        self.assertEqual(told[4:], [[0, 0, 5, 0], [0, 4], [0, 0, 8, 0], [0, 3, 8, 24]])

    def test_again_and_bought_anew(self):
        told = ask((OPEN, 7, 0), up(9, 1, 5), (BUY,), (AVAIL, 1, 2), (AGAIN,), (BUY,), (UNIT, 1), (AVAIL, 1, 1),
                   (AGAIN,), (NEED, 0, 8), (BUY,), (UNIT, 1), (LADDER,), (REACH, 1), (CALL, 9))
        self.assertEqual(told[3:], [[0, 7], [0], [0, 0, 0, 7], [0, 7, 7, 0, 0, 7, 0, 0], [0, 7], [0], [0],
                                    [0, 0, 0, 8], [0, 8, 8, 0, 0, 8, 0, 0], [0, 1], [0, 0, 8], [0, 8, 5, 40]])

    def test_undone_after_avail(self):
        # avail alone calls no quarter.
        self.assertEqual(last((OPEN, 7, 0), up(9), (BUY,), (AVAIL, 1, 2), (FORESEE, [1, 2]), (AGAIN,)), [0])


class Places(unittest.TestCase):
    def test_ordinary(self):
        told = ask(*THREE, (PLACES,), (CALL, 14), (PLACES,), (CALL, -10), (PLACES,))
        self.assertEqual(told[5:], [[0, 0, 0, 0], [0, 10, 30, 300], [0, 4, 0, 6], [0, -3, 10, -30], [0, 0, -3, 0]])

    def test_no_units(self):
        told = ask((OPEN, 0, 0), (BUY,), (PLACES,), (CALL, 5), (PLACES,))
        self.assertEqual(told[2:], [[0], [0, 0, 0, 0], [0]])

    def test_in_order_of_entry_after_withdraw(self):
        told = ask((OPEN, 9, 9), up(1), down(4, energy=9), up(5, energy=2), (WITHDRAW, 1), up(4, energy=1), (BUY,),
                   (CALL, 5), (PLACES,), (CALL, -4), (PLACES,))
        self.assertEqual(told[7:], [[0, 5, 2, 10], [0, -4, 5, 4], [0, -4, 1, -4], [0, -4, 0, 0]])

    def test_refused_calls_move_nothing(self):
        told = ask(*THREE, (CALL, 14), (CALL, FAR + 1), (FORESEE, [0, 0]), (TRY, [4, 0, 6]), (AGAIN,), (PLACES,))
        self.assertEqual(told[6:], [[-1], [0, 0, 10, 0, 0, 10, 0], [0, 10, 240], [-4], [0, 4, 0, 6]])


class Ladder(unittest.TestCase):
    def test_by_energy_price(self):
        told = ask(*THREE, (LADDER,), (AVAIL, 3, 0), (LADDER,), (AVAIL, 3, 1), (LADDER,))
        self.assertEqual(told[5:], [[0, 2, 3, 1], [0, 10], [0, 2, 1], [0, 0], [0, 2, 3, 1]])

    def test_equal_prices_the_earlier_first(self):
        told = ask((OPEN, 9, 9), up(3, 0, 7), down(4, 0, 7), up(3, 0, -7), down(5, 0, 7), up(3, 0, 7), down(1),
                   (WITHDRAW, 1), (BUY,), (LADDER,))
        self.assertEqual(told[-1], [0, 3, 2, 4, 5])

    def test_of_which_nothing_was_bought(self):
        told = ask((OPEN, 3, 0), up(3, 1, 7), up(3, 2, 5), down(4, 0, 1), (BUY,), (LADDER,))
        self.assertEqual(told[-1], [0, 1])

    def test_prices_below_0(self):
        told = ask((OPEN, 9, 9), up(3, 0, 10 ** 6), down(4, 0, -10 ** 6), up(3, 0, -1), down(5, 0, 0), up(3, 0, 1),
                   (BUY,), (LADDER,))
        self.assertEqual(told[-1], [0, 2, 3, 4, 5, 1])

    def test_no_units(self):
        self.assertEqual(last((OPEN, 3, 3), (BUY,), (LADDER,)), [0])
        self.assertEqual(last((OPEN, 0, 0), up(3), (BUY,), (LADDER,)), [0])

    def test_what_is_left_counts_not_where_it_stands(self):
        told = ask(*ONE_UP, (LADDER,), (AVAIL, 1, 0), (PLACES,), (LADDER,))
        self.assertEqual(told[6:], [[0, 1], [0, 10], [0, 10], [0]])

    def test_twenty_four(self):
        offers = [(1, k % 2, 1, 0, -k // 3, 1, 0) for k in range(24)]
        told = last((OPEN, 12, 12), *offers, (BUY,), (LADDER,))
        self.assertEqual(told[1:], [k + 1 for k in sorted(range(24), key=lambda k: (-k // 3, k))])


if __name__ == "__main__":
    unittest.main()
