"""foresee to book: the refusals in their order, the edges of the ranges, and that a refusal changes nothing."""

import unittest

from tests.lines import (AGAIN, AVAIL, BIG, BOOK, BOUGHT, BUY, CALL, COSTS, FORESEE, LADDER, NEED, OPEN, PLACES,
                         QUARTER, REACH, TAKEN, TRY, UNIT, VALUE, WITHDRAW, ask, down, last, up)

MOST = 1000000000
FAR = 100000000000

# Each of these is -1, whatever has gone before.
BEYOND = [(FORESEE, [0] * 97), (FORESEE, [0] * 100), (FORESEE, [0, -FAR - 1]), (FORESEE, [FAR + 1, 0]),
          (FORESEE, [BIG]), (UNIT, -BIG - 1), (UNIT, BIG + 1), (AVAIL, -BIG - 1, 0), (AVAIL, BIG + 1, 0),
          (AVAIL, 1, -1), (AVAIL, 1, MOST + 1), (AVAIL, 1, BIG), (REACH, 0), (REACH, 1001), (REACH, -BIG),
          (TRY, [0] * 25), (TRY, [0] * 100), (TRY, [0, -MOST - 1]), (TRY, [MOST + 1, 0]), (QUARTER, 0), (QUARTER, 97),
          (QUARTER, -BIG), (QUARTER, BIG)]

# Each of these lies within its ranges, at the edges.
WITHIN = [(FORESEE, []), (FORESEE, [0] * 96), (FORESEE, [-FAR, FAR]), (UNIT, -BIG), (UNIT, BIG), (AVAIL, -BIG, 0),
          (AVAIL, BIG, MOST), (REACH, 1), (REACH, 1000), (LADDER,), (PLACES,), (TRY, []), (TRY, [0] * 24),
          (TRY, [-MOST, MOST]), (QUARTER, 1), (QUARTER, 96), (COSTS,)]

# Units 1, 2 and 4 after quarters and avail: unit 1 stands above what's left of it.
MIDST = [(OPEN, 20, 8), up(10, 1, 30, 4), down(8, 2, 10, 3), up(3, 9, 5), up(10, 3, 20, 6), (WITHDRAW, 3), (BUY,),
         (CALL, 14), (CALL, 18), (AVAIL, 1, 3), (CALL, -5), (AVAIL, 4, 7)]


def picture(after_buying=True):
    """Calls whose answers show all that's kept."""
    views = [(BOOK,), (VALUE, 0, [10, 10]), (VALUE, 1, [8])]
    if after_buying:
        views += [(UNIT, n) for n in (1, 2, 3, 4)] + [(TAKEN, n) for n in (1, 2, 3, 4)]
        views += [(PLACES,), (LADDER,), (COSTS,), (BOUGHT, 0), (BOUGHT, 1), (REACH, 1), (REACH, 2), (REACH, 5)]
        views += [(QUARTER, k) for k in (1, 2, 3, 4)] + [(FORESEE, [9, -9, 0])]
    return views + [(AGAIN,)]


class Order(unittest.TestCase):
    def test_range_before_nothing_open(self):
        for call in BEYOND:
            self.assertEqual(ask(call), [[-1]], call)

    def test_range_before_not_bought(self):
        for call in BEYOND:
            self.assertEqual(last((OPEN, 0, 0), call), [-1], call)

    def test_range_before_those_of_the_call(self):
        full = [(OPEN, 0, 0), (BUY,)] + [(CALL, 0)] * 96
        for call in BEYOND:
            self.assertEqual(last((OPEN, 0, 0), (BUY,), call), [-1], call)
            self.assertEqual(last(*full, call), [-1], call)

    def test_nothing_open(self):
        for call in WITHIN + [(BOOK,)]:
            self.assertEqual(ask(call), [[-2]], call)
            self.assertEqual(ask((OPEN, -1, 0), call), [[-1], [-2]], call)

    def test_not_bought_before_those_of_the_call(self):
        for call in WITHIN:
            self.assertEqual(last((OPEN, 0, 0), call), [-3], call)
            self.assertEqual(last((OPEN, 5, 5), up(9), down(9), (BUY,), (AGAIN,), call), [-3], call)
            self.assertEqual(last((OPEN, 5, 5), (BUY,), (CALL, 1), (OPEN, 5, 5), call), [-3], call)

    def test_bought(self):
        first = [last((OPEN, 0, 0), (BUY,), call)[0] for call in WITHIN]
        self.assertEqual(first, [0, 0, 0, -4, -4, -4, -4, 0, 0, 0, 0, 0, -4, -4, -4, -4, 0])

    def test_book_at_any_time(self):
        told = ask((OPEN, 1, 2), (BOOK,), (BUY,), (BOOK,), (CALL, 1), (BOOK,))
        self.assertEqual(told[1::2], [[0, 1, 2, 0], [0, 1, 2, 1], [0, 1, 2, 1]])

    def test_fourth_before_fifth(self):
        told = ask(*MIDST, (AVAIL, 3, MOST), (AVAIL, 9, 11), (AVAIL, 1, 11), (TRY, [MOST, MOST]), (TRY, [-MOST] * 4),
                   (TRY, [MOST] * 3))
        self.assertEqual(told[12:], [[-4], [-4], [-5], [-4], [-4], [-5]])

    def test_other_calls_after_buying(self):
        for call in (up(1), (WITHDRAW, 1), (NEED, 0, 1), (BUY,)):
            self.assertEqual(last(*MIDST, call), [-3], call)


class NothingChanged(unittest.TestCase):
    def check(self, prefix, refused, views):
        plain = ask(*prefix, *views)
        told = ask(*prefix, *refused, *views)
        at = len(prefix)
        for call, answer in zip(refused, told[at:]):
            self.assertEqual(len(answer), 1, call)
            self.assertLess(answer[0], 0, call)
        self.assertEqual(told[:at] + told[at + len(refused):], plain)

    def test_before_buying(self):
        self.check(MIDST[:6], WITHIN + BEYOND, picture(after_buying=False) + [(BUY,)] + picture())

    def test_just_bought(self):
        refused = BEYOND + [(FORESEE, [1] * 97), (UNIT, 3), (AVAIL, 3, 1), (AVAIL, 1, 11), (AVAIL, 2, 9),
                            (TRY, []), (TRY, [5, 0, 0]), (QUARTER, 1), up(1), (WITHDRAW, 1), (NEED, 0, 1), (BUY,)]
        self.check(MIDST[:7], refused, picture() + [(BUY,)] + picture())

    def test_in_the_midst(self):
        refused = BEYOND + [(FORESEE, [1] * 94), (UNIT, 3), (AVAIL, 3, 1), (AVAIL, 1, 11), (AVAIL, 2, 9),
                            (AVAIL, 4, MOST), (TRY, [3, 0]), (TRY, [9, 0, 9]), (QUARTER, 4), (CALL, FAR + 1),
                            (AGAIN,), (OPEN, 0, FAR + 1), up(1), (WITHDRAW, 1), (NEED, 0, 1), (BUY,)]
        self.check(MIDST, refused, picture() + [(CALL, 7)] + picture())

    def test_each_by_itself(self):
        for call in BEYOND + [(FORESEE, [1] * 94), (AVAIL, 1, 11), (AVAIL, 3, 0), (TRY, [3, 0]), (TRY, [9, 0, 9])]:
            self.check(MIDST, [call], picture())

    def test_asking_changes_nothing(self):
        """What only answers, asked or not: all that comes behind is the same."""
        asked = [(FORESEE, [20, -20, 3]), (UNIT, 1), (REACH, 3), (LADDER,), (PLACES,), (TRY, [3, 0, 4]),
                 (QUARTER, 2), (COSTS,), (BOOK,), (TAKEN, 1), (BOUGHT, 0), (VALUE, 0, [10, 10])]
        views = picture() + [(CALL, 7)] + picture()
        plain = ask(*MIDST, *views)
        told = ask(*MIDST, *asked, *views)
        self.assertEqual(told[:12] + told[12 + len(asked):], plain)
        self.assertEqual([answer[0] for answer in told[12:12 + len(asked)] if answer[0] != 0], [])


if __name__ == "__main__":
    unittest.main()
