"""quarter, costs, book: what has been called, bought, paid and entered."""

import unittest

from tests.lines import (AGAIN, AVAIL, BIG, BOOK, BUY, CALL, COSTS, FORESEE, NEED, OPEN, QUARTER, UNIT, WITHDRAW,
                         ask, down, last, up)

MOST = 1000000000
FAR = 100000000000
THREE = [(OPEN, 20, 8), up(10, 1, 30, 4), down(8, 2, 10, 3), up(10, 3, 20, 6), (BUY,)]


class Quarter(unittest.TestCase):
    def test_first_last_and_one_more(self):
        told = ask(*THREE, (QUARTER, 1), (CALL, 5), (QUARTER, 1), (QUARTER, 2), (CALL, 99), (CALL, -10), (QUARTER, 1),
                   (QUARTER, 2), (QUARTER, 3), (QUARTER, 4), (QUARTER, 96))
        # The second quarter has places 4, 0, 10, the third 0, -3, 4 with the price 10.
        self.assertEqual(told[5:], [
            [-4], [0, 5, 20, 100], [0, 5, 5, 20, 100], [-4], [0, 14, 30, 420], [0, 1, 10, 50], [0, 5, 5, 20, 100],
            [0, 99, 14, 30, 420], [0, -10, 1, 10, 50], [-4], [-4]])

    def test_all_ninety_six(self):
        prefix = [(OPEN, 200, 0), up(200, 0, 2, 1), (BUY,)] + [(CALL, 100 + k) for k in range(97)]
        told = ask(*prefix, *[(QUARTER, k) for k in range(1, 97)], (QUARTER, 97), (QUARTER, 0))
        self.assertEqual(told[100:], [[0, 99 + k, k, 2, 2 * k] for k in range(1, 97)] + [[-1], [-1]])

    def test_edges(self):
        told = ask(*THREE, *[(CALL, 0)] * 96, (QUARTER, 0), (QUARTER, 97), (QUARTER, -1), (QUARTER, BIG),
                   (QUARTER, -BIG), (QUARTER, 1), (QUARTER, 96))
        self.assertEqual(told[101:], [[-1]] * 5 + [[0, 0, 0, 10, 0]] * 2)

    def test_greatest_targets(self):
        told = ask(*THREE, (CALL, FAR), (CALL, -FAR), (QUARTER, 1), (QUARTER, 2))
        self.assertEqual(told[7:], [[0, FAR, 10, 30, 300], [0, -FAR, -3, 10, -30]])

    def test_after_open(self):
        told = ask(*THREE, (CALL, 5), (OPEN, 4, 0), (QUARTER, 1), up(4, 0, 7), (BUY,), (QUARTER, 1), (CALL, 3),
                   (QUARTER, 1), (QUARTER, 2))
        self.assertEqual(told[7:], [[-3], [0, 1], [0, 0, 0, 0], [-4], [0, 3, 7, 21], [0, 3, 3, 7, 21], [-4]])

    def test_foreseen_and_refused_ones_are_none(self):
        told = ask(*THREE, (FORESEE, [1, 2]), (CALL, FAR + 1), (QUARTER, 1), (CALL, 9), (FORESEE, [1]), (QUARTER, 1),
                   (QUARTER, 2))
        self.assertEqual([told[7], told[10], told[11]], [[-4], [0, 9, 9, 30, 270], [-4]])

    def test_what_is_left_later_does_not_count(self):
        told = ask(*THREE, (CALL, 9), (AVAIL, 1, 0), (AVAIL, 3, 0), (QUARTER, 1), (CALL, 9), (QUARTER, 1),
                   (QUARTER, 2))
        self.assertEqual(told[8:], [[0, 9, 9, 30, 270], [0, 0, 10, 0], [0, 9, 9, 30, 270], [0, 9, 0, 10, 0]])


class Costs(unittest.TestCase):
    def test_before_and_after_quarters(self):
        told = ask(*THREE, (COSTS,), (CALL, 5), (COSTS,), (CALL, 9), (COSTS,), (CALL, 14), (COSTS,), (CALL, -10),
                   (COSTS,), (CALL, -10), (COSTS,))
        self.assertEqual(told[5::2], [[0, 56, 0], [0, 56, 100], [0, 56, 280], [0, 56, 700], [0, 56, 750],
                                      [0, 56, 690]])

    def test_what_the_units_were_paid(self):
        units = [(UNIT, 1), (UNIT, 2), (UNIT, 3)]
        targets = (14, 18, -3, -8, -8, 7, 20, 1)
        told = ask(*THREE, *[(CALL, target) for target in targets], (COSTS,), *units)
        self.assertEqual(told[13], [0, 56, sum(answer[7] for answer in told[14:])])
        self.assertEqual(told[13], [0, 56, sum(answer[3] for answer in told[5:13])])

    def test_below_0(self):
        told = ask((OPEN, 5, 5), up(5, 1, -7), down(5, 1, 7), (BUY,), (CALL, 5), (COSTS,), (CALL, -5), (COSTS,))
        # At 5 the unit down is raised to 0 by its 7: the unit up is paid 7. At -5 none is raised.
        self.assertEqual(told[4:], [[0, 5, 7, 35], [0, 10, 35], [0, -5, -7, 35], [0, 10, 70]])
        told = ask((OPEN, 5, 0), up(5, 1, -7), (BUY,), (CALL, 5), (COSTS,))
        self.assertEqual(told[-1], [0, 5, -35])

    def test_after_again_and_bought_anew(self):
        told = ask((OPEN, 5, 0), up(9, 4, 2), (BUY,), (COSTS,), (AGAIN,), (COSTS,), up(3, 1, 5), (BUY,), (COSTS,),
                   (CALL, 4), (COSTS,))
        self.assertEqual(told[3:], [[0, 20, 0], [0], [-3], [0, 2], [0, 0, 0, 11], [0, 11, 0], [0, 4, 5, 20],
                                    [0, 11, 20]])

    def test_after_open_and_bought_anew(self):
        told = ask(*THREE, (CALL, 9), (COSTS,), (OPEN, 2, 0), up(9, 4, 2), (BUY,), (COSTS,))
        self.assertEqual([told[6], told[10]], [[0, 56, 270], [0, 8, 0]])

    def test_nothing_offered(self):
        self.assertEqual(last((OPEN, 5, 5), (BUY,), (CALL, 9), (COSTS,)), [0, 0, 0])

    def test_what_is_left_does_not_count(self):
        told = ask(*THREE, (CALL, 9), (AVAIL, 1, 0), (AVAIL, 2, 0), (AVAIL, 3, 0), (COSTS,))
        self.assertEqual(told[-1], [0, 56, 270])

    def test_beyond_two_to_the_53rd(self):
        prefix = [(OPEN, FAR, FAR)] + [up(MOST, 10 ** 6, 10 ** 6)] * 12 + [down(MOST, 10 ** 6, -10 ** 6)] * 12
        told = ask(*prefix, (BUY,), *[(CALL, FAR), (CALL, -FAR)] * 48, (COSTS,))
        self.assertEqual(told[-1], [0, 24 * 10 ** 15, 96 * 12 * 10 ** 15])


class Book(unittest.TestCase):
    def setUp(self):
        self.offers = [(OPEN, 20, 8), up(10, 1, 30, 4), down(8, 2, -10, 3, 1), up(9, 0, 0, 1, 1)]
        self.entries = [[1, 0, 10, 1, 30, 4, 0], [2, 1, 8, 2, -10, 3, 1], [3, 0, 9, 0, 0, 1, 1]]

    def test_before_and_after_buying(self):
        told = ask(*self.offers, (BOOK,), (BUY,), (BOOK,), (CALL, 4), (BOOK,))
        rows = sum(self.entries, [])
        self.assertEqual([told[4], told[6], told[8]],
                         [[0, 20, 8, 0] + rows, [0, 20, 8, 1] + rows, [0, 20, 8, 1] + rows])

    def test_after_again(self):
        told = ask(*self.offers, (BOOK,), (BUY,), (AVAIL, 1, 3), (AGAIN,), (BOOK,))
        self.assertEqual(told[-1], told[4])

    def test_no_offers(self):
        told = ask((OPEN, 0, FAR), (BOOK,), (BUY,), (BOOK,))
        self.assertEqual(told[1:], [[0, 0, FAR, 0], [0, 0, -FAR, 0], [0, 0, FAR, 1]])

    def test_after_withdraw(self):
        first, second, third = self.entries
        told = ask(*self.offers, (WITHDRAW, 2), (BOOK,), up(7, 6, 5, 4), (BOOK,), (WITHDRAW, 1), (WITHDRAW, 4),
                   (BOOK,), (WITHDRAW, 3), (BOOK,), (WITHDRAW, 3), (BOOK,))
        self.assertEqual(told[5:], [
            [0, 20, 8, 0] + first + third, [0, 4], [0, 20, 8, 0] + first + third + [4, 0, 7, 6, 5, 4, 0], [0], [0],
            [0, 20, 8, 0] + third, [0], [0, 20, 8, 0], [-4], [0, 20, 8, 0]])

    def test_after_need(self):
        told = ask((OPEN, 20, 8), (NEED, 1, 5), (BOOK,), (NEED, 0, 0), (BOOK,), (NEED, 0, FAR + 1), (BUY,),
                   (NEED, 0, 3), (BOOK,))
        self.assertEqual([told[2], told[4], told[8]], [[0, 20, 5, 0], [0, 0, 5, 0], [0, 0, 5, 1]])

    def test_after_open(self):
        told = ask(*self.offers, (BUY,), (CALL, 2), (OPEN, 1, 2), (BOOK,), up(3), (BOOK,))
        self.assertEqual(told[7:], [[0, 1, 2, 0], [0, 1], [0, 1, 2, 0, 1, 0, 3, 0, 0, MOST, 0]])

    def test_refused_offers_are_not_in_it(self):
        told = ask((OPEN, 1, 1), *[up(1, whole=1)] * 9, (BOOK,))
        self.assertEqual(len(told[-1]), 4 + 7 * 8)

    def test_edges_of_offers(self):
        least, greatest = [0, 1, 0, -1000000, 1, 0], [1, MOST, 1000000, 1000000, MOST, 1]
        self.assertEqual(last((OPEN, FAR, 0), (1, *least), (1, *greatest), (BOOK,)),
                         [0, FAR, 0, 0, 1, *least, 2, *greatest])

    def test_twenty_four_offers(self):
        offers = [[k % 2, k + 1, 2 * k, 3 - k, 4 + k, k % 3 // 2] for k in range(24)]
        rows = sum([[k + 1] + offer for k, offer in enumerate(offers)], [])
        self.assertEqual(last((OPEN, 1, 1), *[(1, *offer) for offer in offers], (BOOK,)), [0, 1, 1, 0] + rows)

    def test_its_answer_is_not_the_desk_s_own(self):
        # Asked over and over, the needs must not grow.
        told = ask(*self.offers, (BOOK,), (BOOK,), (BOOK,), (BUY,))
        self.assertEqual(told[4], told[6])
        self.assertEqual(told[7][1:3], [-1, 0])


if __name__ == "__main__":
    unittest.main()
