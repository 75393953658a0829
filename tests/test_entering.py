"""open, offer, withdraw, need: what they answer and refuse, the edges of their ranges."""

import unittest

from tests.lines import (AGAIN, BIG, BOUGHT, BUY, CALL, NEED, OFFER, OPEN, TAKEN, VALUE, WITHDRAW,
                         ask, down, last, up)

MOST_NEED = 100000000000
MOST = 1000000000


class Open(unittest.TestCase):
    def test_ordinary(self):
        self.assertEqual(ask((OPEN, 5, 7)), [[0]])

    def test_edges(self):
        self.assertEqual(ask((OPEN, 0, 0)), [[0]])
        self.assertEqual(ask((OPEN, MOST_NEED, MOST_NEED)), [[0]])
        for wrong in (-1, MOST_NEED + 1, BIG, -BIG):
            self.assertEqual(ask((OPEN, wrong, 0)), [[-1]])
            self.assertEqual(ask((OPEN, 0, wrong)), [[-1]])

    def test_needs_are_told_by_direction(self):
        self.assertEqual(last((OPEN, 5, 7), (BUY,)), [0, -5, -7, 0])

    def test_in_the_midst_all_begins_anew(self):
        told = ask((OPEN, 4, 0), up(4, 3), up(9, 1), (BUY,), (CALL, 2), (OPEN, 1, 2), (TAKEN, 1),
                   (VALUE, 0, []), (NEED, 0, 0), (VALUE, 0, []), (WITHDRAW, 1), up(6, 2), (BUY,), (AGAIN,))
        self.assertEqual(told[5:], [[0], [-3], [-5], [0], [0, 0], [-4], [0, 1], [0, 0, -2, 0], [0]])

    def test_anew_there_are_ninety_six_quarters_again(self):
        told = ask((OPEN, 0, 0), (BUY,), *[(CALL, 0)] * 97, (OPEN, 0, 0), (BUY,), *[(CALL, 0)] * 97)
        self.assertEqual([answer[0] for answer in told[2:99]], [0] * 96 + [-4])
        self.assertEqual([answer[0] for answer in told[101:]], [0] * 96 + [-4])

    def test_refused_it_changes_nothing(self):
        told = ask((OPEN, 4, 0), up(4, 3), (BUY,), (CALL, 3), (OPEN, 0, -1), (TAKEN, 1), (CALL, 4), (AGAIN,))
        self.assertEqual(told[4:], [[-1], [0, 4], [0, 4, 0, 0], [-4]])

    def test_refused_at_first_nothing_is_begun(self):
        self.assertEqual(ask((OPEN, -1, 0), (BUY,)), [[-1], [-2]])


class Offer(unittest.TestCase):
    def test_numbers_in_order(self):
        self.assertEqual(ask((OPEN, 0, 0), up(1), down(2), up(3)), [[0], [0, 1], [0, 2], [0, 3]])

    def test_edges(self):
        least = [0, 1, 0, -1000000, 1, 0]
        greatest = [1, MOST, 1000000, 1000000, MOST, 1]
        self.assertEqual(last((OPEN, 0, 0), (OFFER, *least)), [0, 1])
        self.assertEqual(last((OPEN, 0, 0), (OFFER, *greatest)), [0, 1])
        for position in range(6):
            for edge, step in ((least, -1), (greatest, 1)):
                wrong = list(edge)
                wrong[position] += step
                self.assertEqual(last((OPEN, 0, 0), (OFFER, *wrong)), [-1], wrong)
                wrong[position] = step * BIG
                self.assertEqual(last((OPEN, 0, 0), (OFFER, *wrong)), [-1], wrong)

    def test_twenty_four_offers(self):
        told = ask((OPEN, 0, 0), *[up(1), down(1)] * 12, up(1), down(1), (WITHDRAW, 3), up(1), up(1))
        self.assertEqual(told[24:], [[0, 24], [-4], [-4], [0], [0, 25], [-4]])

    def test_eight_whole_offers_of_a_direction(self):
        told = ask((OPEN, 0, 0), *[up(1, whole=1)] * 8, up(1, whole=1), down(1, whole=1), up(1),
                   *[down(1, whole=1)] * 7, down(1, whole=1), (WITHDRAW, 1), down(1, whole=1), up(1, whole=1))
        self.assertEqual(told[8:12], [[0, 8], [-5], [0, 9], [0, 10]])
        self.assertEqual(told[18:], [[0, 17], [-5], [0], [-5], [0, 18]])

    def test_offers_in_parts_do_not_count_as_whole(self):
        told = ask((OPEN, 0, 0), *[up(1)] * 9, up(1, whole=1))
        self.assertEqual(told[-1], [0, 10])

    def test_full_comes_before_whole(self):
        told = ask((OPEN, 0, 0), *[up(1, whole=1)] * 8, *[up(1)] * 16, up(1, whole=1))
        self.assertEqual(told[-1], [-4])

    def test_refused_it_uses_no_number(self):
        told = ask((OPEN, 0, 0), up(0), up(1), up(MOST + 1), up(1))
        self.assertEqual(told[1:], [[-1], [0, 1], [-1], [0, 2]])
        told = ask((OPEN, 0, 0), *[up(1, whole=1)] * 9, up(1), (BUY,), up(1), (AGAIN,), up(1))
        self.assertEqual(told[9:], [[-5], [0, 9], [0, 0, 0, 0], [-3], [0], [0, 10]])

    def test_refused_it_is_not_entered(self):
        told = ask((OPEN, 9, 0), *[up(1)] * 24, up(9, 0), (BUY,), (BOUGHT, 0))
        self.assertEqual(told[-1], [0] + [1] * 9 + [0] * 15)


class Withdraw(unittest.TestCase):
    def test_ordinary(self):
        told = ask((OPEN, 5, 0), up(5, 1), up(5, 2), (WITHDRAW, 1), (BUY,), (BOUGHT, 0), (TAKEN, 1), (TAKEN, 2))
        self.assertEqual(told[3:], [[0], [0, 0, 0, 10], [0, 5], [-4], [0, 5]])

    def test_no_such_offer(self):
        told = ask((OPEN, 0, 0), up(1), (WITHDRAW, 0), (WITHDRAW, 2), (WITHDRAW, -1), (WITHDRAW, BIG),
                   (WITHDRAW, -BIG), (WITHDRAW, 1), (WITHDRAW, 1))
        self.assertEqual(told[2:], [[-4]] * 5 + [[0], [-4]])

    def test_beyond_the_range(self):
        self.assertEqual(last((OPEN, 0, 0), (WITHDRAW, BIG + 1)), [-1])
        self.assertEqual(last((OPEN, 0, 0), (WITHDRAW, -BIG - 1)), [-1])

    def test_numbers_are_not_given_again(self):
        told = ask((OPEN, 0, 0), up(1), up(1), (WITHDRAW, 2), up(1), (WITHDRAW, 1), (WITHDRAW, 3), up(1))
        self.assertEqual(told[3:], [[0], [0, 3], [0], [0], [0, 4]])

    def test_order_of_entry_stays(self):
        told = ask((OPEN, 4, 0), up(3), up(3), up(3), (WITHDRAW, 1), up(3), (BUY,), (BOUGHT, 0))
        self.assertEqual(told[-1], [0, 3, 1, 0])

    def test_refused_it_changes_nothing(self):
        told = ask((OPEN, 2, 0), up(3), (WITHDRAW, 7), (BUY,), (WITHDRAW, 1), (BOUGHT, 0), (AGAIN,), (BUY,),
                   (BOUGHT, 0))
        self.assertEqual(told[2:], [[-4], [0, 0, 0, 0], [-3], [0, 2], [0], [0, 0, 0, 0], [0, 2]])


class Need(unittest.TestCase):
    def test_ordinary(self):
        told = ask((OPEN, 1, 1), up(9, 2), down(9, 3), (NEED, 0, 5), (NEED, 1, 4), (BUY,), (BOUGHT, 0), (BOUGHT, 1))
        self.assertEqual(told[3:], [[0], [0], [0, 0, 0, 22], [0, 5], [0, 4]])

    def test_edges(self):
        for direction in (0, 1):
            told = ask((OPEN, 1, 1), (NEED, direction, 0), (NEED, direction, MOST_NEED), (NEED, direction, -1),
                       (NEED, direction, MOST_NEED + 1), (BUY,))
            self.assertEqual(told[1:5], [[0], [0], [-1], [-1]])
            self.assertEqual(told[5][1 + direction], -MOST_NEED)
            self.assertEqual(told[5][2 - direction], -1)
        self.assertEqual(last((OPEN, 1, 1), (NEED, -1, 0)), [-1])
        self.assertEqual(last((OPEN, 1, 1), (NEED, 2, 0)), [-1])

    def test_after_buying(self):
        told = ask((OPEN, 2, 0), up(9), (BUY,), (NEED, 0, 7), (AGAIN,), (BUY,), (BOUGHT, 0))
        self.assertEqual(told[3:], [[-3], [0], [0, 0, 0, 0], [0, 2]])


class OrderOfRefusals(unittest.TestCase):
    def test_range_before_nothing_open(self):
        for wrong in ((OFFER, 2, 1, 0, 0, 1, 0), (WITHDRAW, BIG + 1), (NEED, 0, -1), (TAKEN, BIG + 1),
                      (BOUGHT, 2), (VALUE, 2, []), (VALUE, 0, [-1]), (VALUE, 0, [0] * 25), (CALL, MOST_NEED + 1)):
            self.assertEqual(ask(wrong), [[-1]], wrong)

    def test_nothing_open(self):
        for call in (up(1), (WITHDRAW, 1), (NEED, 0, 1), (BUY,), (AGAIN,), (TAKEN, 1), (BOUGHT, 0),
                     (VALUE, 0, []), (VALUE, 0, [1]), (CALL, 0)):
            self.assertEqual(ask(call), [[-2]], call)

    def test_range_before_bought_or_not(self):
        for wrong in (up(0), (WITHDRAW, BIG + 1), (NEED, 2, 0)):
            self.assertEqual(last((OPEN, 0, 0), (BUY,), wrong), [-1], wrong)
        for wrong in ((TAKEN, -BIG - 1), (BOUGHT, -1), (CALL, -MOST_NEED - 1)):
            self.assertEqual(last((OPEN, 0, 0), wrong), [-1], wrong)

    def test_bought_or_not_before_those_of_the_call(self):
        full = [(OPEN, 0, 0)] + [up(1, whole=1)] * 8 + [down(1)] * 16 + [(BUY,)]
        for call in (up(1, whole=1), (WITHDRAW, 99), (NEED, 0, 0), (BUY,)):
            self.assertEqual(last(*full, call), [-3], call)
        for call in ((AGAIN,), (TAKEN, 99), (BOUGHT, 0), (CALL, 0)):
            self.assertEqual(last((OPEN, 0, 0), call), [-3], call)

    def test_range_before_those_of_the_call(self):
        full = [(OPEN, 0, 0)] + [up(1, whole=1)] * 8 + [down(1)] * 16
        self.assertEqual(last(*full, up(0, whole=1)), [-1])
        self.assertEqual(last((OPEN, 5, 0), up(1), (VALUE, 0, [1, -1])), [-1])
        self.assertEqual(last((OPEN, 0, 0), (BUY,), *[(CALL, 0)] * 96, (CALL, MOST_NEED + 1)), [-1])


if __name__ == "__main__":
    unittest.main()
