"""buy, again, taken, bought, value: what they answer and refuse."""

import unittest

from tests.lines import (AGAIN, BIG, BOUGHT, BUY, CALL, NEED, OPEN, TAKEN, VALUE, WITHDRAW,
                         ask, down, last, up)

MOST = 1000000000


class Buy(unittest.TestCase):
    def test_ordinary(self):
        told = ask((OPEN, 10, 3), up(8, 3), down(2, 7), up(6, 2), down(9, 5, whole=1), (BUY,),
                   (BOUGHT, 0), (BOUGHT, 1), (TAKEN, 1), (TAKEN, 2), (TAKEN, 3), (TAKEN, 4))
        self.assertEqual(told[5:], [[0, 0, 6, 24 + 45], [0, 4, 6], [0, 0, 9], [0, 4], [0, 0], [0, 6], [0, 9]])

    def test_nothing_offered(self):
        self.assertEqual(last((OPEN, 0, 0), (BUY,)), [0, 0, 0, 0])
        self.assertEqual(last((OPEN, 3, 100000000000), (BUY,)), [0, -3, -100000000000, 0])

    def test_no_buy_covers(self):
        told = ask((OPEN, 20, 1), up(8, 3), up(6, 2, whole=1), down(4, 1), (BUY,), (BOUGHT, 0), (BOUGHT, 1))
        self.assertEqual(told[4:], [[0, -6, 0, 24 + 12 + 1], [0, 8, 6], [0, 1]])

    def test_all_of_it_just_covers(self):
        told = ask((OPEN, 14, 0), up(8, 3), up(6, 2, whole=1), (BUY,), (BOUGHT, 0))
        self.assertEqual(told[3:], [[0, 0, 0, 36], [0, 8, 6]])

    def test_one_direction_covers_and_the_other_does_not(self):
        told = ask((OPEN, 1, 9), up(5, 1, whole=1), down(4, 2), down(4, 0), (BUY,), (BOUGHT, 0), (BOUGHT, 1))
        self.assertEqual(told[4:], [[0, 4, -1, 13], [0, 5], [0, 4, 4]])

    def test_costs_beyond_two_to_the_53rd(self):
        told = ask((OPEN, 24 * MOST - 1, 0), *[up(MOST, 1000000 - k) for k in range(24)], (BUY,), (TAKEN, 1))
        cost = sum(MOST * (1000000 - k) for k in range(24)) - 1000000
        self.assertGreater(cost, 2 ** 53)
        self.assertEqual(told[-2:], [[0, 0, 0, cost], [0, MOST - 1]])

    def test_bought_already(self):
        told = ask((OPEN, 1, 0), up(5, 1), (BUY,), (BUY,), (TAKEN, 1))
        self.assertEqual(told[2:], [[0, 0, 0, 1], [-3], [0, 1]])


class Again(unittest.TestCase):
    def test_ordinary(self):
        told = ask((OPEN, 5, 0), up(9, 4), (BUY,), (AGAIN,), up(9, 3), (BUY,), (BOUGHT, 0))
        self.assertEqual(told[2:], [[0, 0, 0, 20], [0], [0, 2], [0, 0, 0, 15], [0, 0, 5]])

    def test_there_are_no_units_afterwards(self):
        told = ask((OPEN, 5, 0), up(9, 4), (BUY,), (AGAIN,), (TAKEN, 1), (BOUGHT, 0), (CALL, 1), (AGAIN,))
        self.assertEqual(told[3:], [[0], [-3], [-3], [-3], [-3]])

    def test_withdraw_and_need_in_between(self):
        told = ask((OPEN, 5, 0), up(9, 4), up(9, 5), (BUY,), (AGAIN,), (WITHDRAW, 1), (NEED, 0, 6), (BUY,),
                   (TAKEN, 1), (TAKEN, 2))
        self.assertEqual(told[3:], [[0, 0, 0, 20], [0], [0], [0], [0, 0, 0, 30], [-4], [0, 6]])

    def test_a_quarter_has_been_called(self):
        told = ask((OPEN, 5, 0), up(9, 4, 2), (BUY,), (CALL, 3), (AGAIN,), (TAKEN, 1), (CALL, 4))
        self.assertEqual(told[4:], [[-4], [0, 5], [0, 4, 2, 8]])


class Taken(unittest.TestCase):
    def test_no_such_unit(self):
        told = ask((OPEN, 5, 0), up(9), up(9), (WITHDRAW, 1), (BUY,), (TAKEN, 1), (TAKEN, 0), (TAKEN, 3),
                   (TAKEN, BIG), (TAKEN, -BIG), (TAKEN, BIG + 1), (TAKEN, -BIG - 1))
        self.assertEqual(told[5:], [[-4]] * 5 + [[-1]] * 2)

    def test_of_which_nothing_was_bought(self):
        self.assertEqual(last((OPEN, 0, 0), up(9), (BUY,), (TAKEN, 1)), [0, 0])


class Bought(unittest.TestCase):
    def test_edges(self):
        told = ask((OPEN, 1, 1), up(9), (BUY,), (BOUGHT, 0), (BOUGHT, 1), (BOUGHT, 2), (BOUGHT, -1))
        self.assertEqual(told[3:], [[0, 1], [0], [-1], [-1]])

    def test_after_a_quarter(self):
        told = ask((OPEN, 1, 1), up(9), down(3), (BUY,), (CALL, 1), (BOUGHT, 0), (BOUGHT, 1))
        self.assertEqual(told[5:], [[0, 1], [0, 1]])


class Value(unittest.TestCase):
    def setUp(self):
        self.book = [(OPEN, 10, 4), up(8, 3), down(5, 9), up(6, 2, whole=1), up(4, 0)]

    def value(self, direction, amounts):
        """The same is answered before and after buying, and once a quarter has been called."""
        call = (VALUE, direction, amounts)
        told = ask(*self.book, call, (BUY,), call, (CALL, 2), call)
        self.assertEqual(told[-1], told[-3])
        self.assertEqual(told[-1], told[-5])
        return told[-1]

    def test_ordinary(self):
        self.assertEqual(self.value(0, [8, 6, 4]), [0, 36])
        self.assertEqual(self.value(0, [4, 6, 0]), [0, 24])
        self.assertEqual(self.value(0, [0, 6, 4]), [0, 12])
        self.assertEqual(self.value(0, [7, 0, 3]), [0, 21])
        self.assertEqual(self.value(1, [4]), [0, 36])
        self.assertEqual(self.value(1, [5]), [0, 45])

    def test_another_length(self):
        for amounts in ([], [8, 6], [8, 6, 4, 0], [8, 6, 4] * 8, [MOST] * 24):
            self.assertEqual(self.value(0, amounts), [-4], amounts)
        for amounts in ([], [5, 0]):
            self.assertEqual(self.value(1, amounts), [-4], amounts)

    def test_no_buy(self):
        for amounts in ([9, 6, 4], [8, 5, 4], [8, 7, 4], [8, 1, 4], [8, 6, 5], [MOST, 6, 4]):
            self.assertEqual(self.value(0, amounts), [-5], amounts)
        self.assertEqual(self.value(1, [6]), [-5])

    def test_does_not_cover(self):
        for amounts in ([0, 0, 0], [8, 0, 1], [3, 6, 0]):
            self.assertEqual(self.value(0, amounts), [-5], amounts)
        self.assertEqual(self.value(1, [3]), [-5])

    def test_nothing_covers(self):
        told = ask((OPEN, 9, 0), up(8, 3), (BUY,), (VALUE, 0, [8]))
        self.assertEqual(told[2:], [[0, -1, 0, 24], [-5]])

    def test_edges(self):
        for amounts in ([-1, 6, 4], [8, 6, MOST + 1], [0] * 25, [0] * 100, [BIG, 0, 0], [-BIG]):
            self.assertEqual(self.value(0, amounts), [-1], amounts)
        self.assertEqual(self.value(-1, [8, 6, 4]), [-1])
        self.assertEqual(self.value(2, [8, 6, 4]), [-1])
        self.assertEqual(last((OPEN, 0, 0), (VALUE, 0, [])), [0, 0])
        self.assertEqual(last((OPEN, 1, 0), (VALUE, 0, [])), [-5])
        full = [(OPEN, 24 * MOST, 0)] + [up(MOST, 1000000)] * 24
        self.assertEqual(last(*full, (VALUE, 0, [MOST] * 24)), [0, 24 * MOST * 1000000])

    def test_another_length_before_no_buy(self):
        self.assertEqual(self.value(0, [9, 5]), [-4])
        self.assertEqual(self.value(0, [0, 0, 0, 0]), [-4])

    def test_it_changes_nothing(self):
        told = ask(*self.book, (VALUE, 0, [8, 6, 4]), (BUY,), (VALUE, 0, [8, 6, 4]), (BOUGHT, 0))
        self.assertEqual(told[-1], [0, 0, 6, 4])

    def test_the_need_as_it_is(self):
        told = ask(*self.book, (VALUE, 0, [0, 0, 4]), (NEED, 0, 4), (VALUE, 0, [0, 0, 4]))
        self.assertEqual(told[-3:], [[-5], [0], [0, 0]])


if __name__ == "__main__":
    unittest.main()
