"""foresee: just what the same targets answer by call, and nothing is changed."""

import random
import time
import unittest

from tests.lines import (AGAIN, AVAIL, BOOK, BUY, CALL, COSTS, FORESEE, LADDER, OPEN, PLACES, QUARTER, REACH, UNIT,
                         ask, down, last, up)

FAR = 100000000000
THREE = [(OPEN, 20, 8), up(10, 1, 30, 4), down(8, 2, 10, 3), up(10, 3, 20, 6), (BUY,)]
VIEW = [(UNIT, 1), (UNIT, 2), (UNIT, 3), (PLACES,), (LADDER,), (COSTS,), (BOOK,), (REACH, 1), (REACH, 3),
        (QUARTER, 1), (QUARTER, 2), (QUARTER, 96)]


def called(prefix, targets):
    """What the targets answer by call behind the prefix, in one list as foresee tells it."""
    told = [0]
    for answer in ask(*prefix, *[(CALL, target) for target in targets])[len(prefix):]:
        told += answer[1:]
    return told


class Foresee(unittest.TestCase):
    def test_ordinary(self):
        self.assertEqual(last(*THREE, (FORESEE, [5, 9, 14, -10, -10])),
                         [0, 5, 20, 100, 9, 20, 180, 14, 30, 420, 1, 10, 50, -6, 10, -60])

    def test_empty(self):
        self.assertEqual(last(*THREE, (FORESEE, [])), [0])
        self.assertEqual(last((OPEN, 0, 0), (BUY,), (FORESEE, [])), [0])

    def test_no_units(self):
        self.assertEqual(last((OPEN, 0, 0), (BUY,), (FORESEE, [5, -5])), [0] * 7)

    def test_it_changes_nothing(self):
        for prefix in (THREE, THREE + [(CALL, 9)], THREE + [(CALL, 9), (AVAIL, 3, 2), (CALL, -3), (AVAIL, 1, 0)]):
            plain = ask(*prefix, *VIEW, (CALL, 7), *VIEW)
            told = ask(*prefix, (FORESEE, [14, 14, -9, 3]), *VIEW, (FORESEE, [2]), (CALL, 7), *VIEW)
            at = len(prefix)
            del told[at + 1 + len(VIEW)]
            del told[at]
            self.assertEqual(told, plain)

    def test_undone_after_it(self):
        self.assertEqual(last(*THREE, (FORESEE, [1, 2, 3]), (AGAIN,)), [0])

    def test_twice_the_same(self):
        told = ask(*THREE, (FORESEE, [9, -9]), (FORESEE, [9, -9]), (FORESEE, [-9]))
        self.assertEqual(told[-2], told[-3])
        self.assertEqual(told[-1], called(THREE, [-9]))

    def test_ninety_six_together(self):
        steep = [(OPEN, 200, 0), up(200, 0, 2, 1), (BUY,)]
        whole = [0]
        for k in range(1, 97):
            whole += [k, 2, 2 * k]
        self.assertEqual(last(*steep, (FORESEE, [200] * 96)), whole)
        for before in (0, 1, 40, 95, 96):
            told = ask(*steep, *[(CALL, 200)] * before, (FORESEE, [200] * (96 - before)),
                       (FORESEE, [200] * (97 - before)), (FORESEE, []), *[(CALL, 200)] * (97 - before))
            # A list of 97 targets isn't in the range told.
            self.assertEqual(told[3 + before:6 + before],
                             [[0] + whole[1 + 3 * before:], [-1] if before == 0 else [-4], [0]])
            self.assertEqual([answer[0] for answer in told[6 + before:]], [0] * (96 - before) + [-4])

    def test_refused_quarters_do_not_count(self):
        told = ask((OPEN, 0, 0), (BUY,), *[(CALL, FAR + 1)] * 3, *[(CALL, 0)] * 95, (FORESEE, [0]), (FORESEE, [0, 0]))
        self.assertEqual(told[-2:], [[0, 0, 0, 0], [-4]])

    def test_edges(self):
        offers = [(OPEN, 9, 9), up(9, 0, 8), down(9, 0, 6), (BUY,)]
        told = ask(*offers, (FORESEE, [FAR, -FAR]), (FORESEE, [FAR + 1]), (FORESEE, [0, -FAR - 1]),
                   (FORESEE, [0] * 97), (FORESEE, [0] * 100), (FORESEE, [0] * 95 + [FAR]))
        self.assertEqual(told[4:8], [[0, 9, 8, 72, -9, 6, -54], [-1], [-1], [-1]])
        self.assertEqual(told[8], [-1])
        # At 0 unit 2 is raised to 0 by its room of 9, so the price is its 6.
        self.assertEqual(told[9], [0] + [0, 6, 0] * 95 + [9, 8, 72])

    def test_after_avail(self):
        prefix = THREE + [(CALL, 14), (CALL, 18), (AVAIL, 3, 1), (AVAIL, 2, 0), (CALL, 20), (AVAIL, 1, 3)]
        targets = [9, 5, 0, -8, 20, 20]
        self.assertEqual(last(*prefix, (FORESEE, targets)), called(prefix, targets))

    def test_against_call(self):
        source = random.Random(7)
        for case in range(200):
            offers = [(1, source.randint(0, 1), source.randint(1, 40), 0, source.randint(-3, 3), source.randint(1, 9),
                       0) for k in range(source.randint(0, 6))]
            calls = [(OPEN, source.randint(0, 90), source.randint(0, 90))] + offers + [(BUY,)]
            for k in range(source.randint(0, 9)):
                if offers and source.random() < 0.4:
                    calls.append((AVAIL, source.randint(1, len(offers)), source.randint(0, 40)))
                else:
                    calls.append((CALL, source.randint(-70, 70)))
            targets = [source.randint(-70, 70) for k in range(source.randint(0, 12))]
            self.assertEqual(last(*calls, (FORESEE, targets)), called(calls, targets), (calls, targets))

    def test_long_lists_in_time(self):
        offers = [(1, k % 2, 10 ** 9, k, k * 7919 % 101 - 50, 10 ** 6 + k, 0) for k in range(24)]
        calls = [(OPEN, FAR, FAR)] + offers + [(BUY,)]
        rows = [[(-1) ** k * 10 ** 9 * (k % 12) for k in range(96)]] * 160
        began = time.perf_counter()
        told = ask(*calls, *[(FORESEE, row) for row in rows])
        self.assertLess(time.perf_counter() - began, 30)
        self.assertEqual(len(told[-1]), 1 + 3 * 96)
        self.assertEqual(told[-160:], [told[-1]] * 160)
        self.assertEqual(told[-1], called(calls, rows[0]))


if __name__ == "__main__":
    unittest.main()
