"""reach: the least and the greatest sum of places k quarters from now."""

import random
import time
import unittest

from tests.lines import AVAIL, BIG, BUY, CALL, OPEN, PLACES, REACH, ask, down, last, up

MOST = 1000000000
FAR = 100000000000
THREE = [(OPEN, 20, 8), up(10, 1, 30, 4), down(8, 2, 10, 3), up(10, 3, 20, 6), (BUY,)]


def gone(prefix, k):
    """Where the units come by k quarters with a target far below, and far above."""
    sums = []
    for target in (-FAR, FAR):
        sums.append(sum(last(*prefix, *[(CALL, target)] * k, (PLACES,))[1:]))
    return [0] + sums


def stepped(units, k):
    """The same for units (direction, place, left, ramp), from the words, place by place."""
    sums = [0, 0]
    for direction, place, left, ramp in units:
        near = far = abs(place)
        for quarter in range(k):
            near = min(max(near - ramp, 0), left)
            far = min(far + ramp, left)
        sums[0] += -far if direction else near
        sums[1] += -near if direction else far
    return [0] + sums


class Reach(unittest.TestCase):
    def test_ordinary(self):
        told = ask(*THREE, (REACH, 1), (REACH, 2), (REACH, 3), (REACH, 4), (REACH, 1000))
        self.assertEqual(told[5:], [[0, -3, 10], [0, -6, 18], [0, -8, 20], [0, -8, 20], [0, -8, 20]])

    def test_from_where_they_stand(self):
        # After this the units stand at 8, 0, 10.
        prefix = THREE + [(CALL, 18), (CALL, 18)]
        told = ask(*prefix, (PLACES,), (REACH, 1), (REACH, 2), (REACH, 3), (REACH, 1000))
        self.assertEqual(told[7:], [[0, 8, 0, 10], [0, 4 - 3 + 4, 20], [0, -6, 20], [0, -8, 20], [0, -8, 20]])

    def test_down_alone(self):
        prefix = [(OPEN, 0, 9), down(9, 0, 0, 2), (BUY,), (CALL, -9), (CALL, -9), (CALL, -9)]
        told = ask(*prefix, (REACH, 1), (REACH, 2), (REACH, 3), (REACH, 4))
        self.assertEqual(told[6:], [[0, -8, -4], [0, -9, -2], [0, -9, 0], [0, -9, 0]])

    def test_less_left_than_where_it_stands(self):
        # It stands at 10; what's left brings it to 5 at once, and only then its ramp counts.
        up_at_10 = [(OPEN, 10, 0), up(10, 0, 0, 2), (BUY,)] + [(CALL, 10)] * 5
        told = ask(*up_at_10, (AVAIL, 1, 5), *[(REACH, k) for k in (1, 2, 3, 4, 5)])
        self.assertEqual(told[9:], [[0, 5, 5], [0, 3, 5], [0, 1, 5], [0, 0, 5], [0, 0, 5]])
        down_at_10 = [(OPEN, 0, 10), down(10, 0, 0, 2), (BUY,)] + [(CALL, -10)] * 5
        told = ask(*down_at_10, (AVAIL, 1, 5), *[(REACH, k) for k in (1, 2, 3, 4, 5)])
        self.assertEqual(told[9:], [[0, -5, -5], [0, -5, -3], [0, -5, -1], [0, -5, 0], [0, -5, 0]])

    def test_nothing_left(self):
        told = ask((OPEN, 10, 0), up(10, 0, 0, 2), (BUY,), (CALL, 2), (AVAIL, 1, 0), (REACH, 1), (REACH, 1000))
        self.assertEqual(told[5:], [[0, 0, 0], [0, 0, 0]])

    def test_no_units(self):
        self.assertEqual(last((OPEN, 5, 5), (BUY,), (REACH, 7)), [0, 0, 0])

    def test_a_thousand_quarters(self):
        # A ramp of 1 does not suffice for what was bought, even by then.
        told = ask((OPEN, MOST, MOST), up(MOST, 0, 0, 1), down(MOST, 0, 0, 3), (BUY,), (REACH, 1), (REACH, 999),
                   (REACH, 1000))
        self.assertEqual(told[4:], [[0, -3, 1], [0, -2997, 999], [0, -3000, 1000]])

    def test_more_than_ninety_six_quarters_in_all(self):
        told = ask((OPEN, 200, 0), up(200, 0, 0, 1), (BUY,), *[(CALL, 200)] * 96, (REACH, 1), (REACH, 97),
                   (REACH, 1000))
        self.assertEqual(told[-3:], [[0, 95, 97], [0, 0, 193], [0, 0, 200]])

    def test_edges(self):
        told = ask(*THREE, (REACH, 0), (REACH, 1001), (REACH, -1), (REACH, BIG), (REACH, -BIG), (REACH, 1))
        self.assertEqual(told[5:], [[-1]] * 5 + [[0, -3, 10]])

    def test_it_changes_nothing(self):
        told = ask(*THREE, (REACH, 5), (PLACES,), (CALL, 5), (REACH, 1000), (PLACES,))
        self.assertEqual(told[6:], [[0, 0, 0, 0], [0, 5, 20, 100], [0, -8, 20], [0, 0, 0, 5]])

    def test_great_numbers(self):
        prefix = [(OPEN, FAR, FAR)] + [up(MOST, 0, 0, MOST)] * 12 + [down(MOST, 0, 0, MOST)] * 12 + [(BUY,)]
        self.assertEqual(last(*prefix, (REACH, 1000)), [0, -12 * MOST, 12 * MOST])


class StepByStep(unittest.TestCase):
    def test_against_going_there(self):
        source = random.Random(8)
        for case in range(120):
            offers = [(1, source.randint(0, 1), source.randint(1, 40), 0, source.randint(-3, 3), source.randint(1, 9),
                       0) for k in range(source.randint(1, 6))]
            calls = [(OPEN, source.randint(0, 120), source.randint(0, 120))] + offers + [(BUY,)]
            for k in range(source.randint(0, 8)):
                calls.append((CALL, source.randint(-90, 90)))
            for k in range(source.randint(0, 4)):
                calls.append((AVAIL, source.randint(1, len(offers)), source.randint(0, 20)))
            for k in (1, 2, 3, source.randint(4, 30)):
                self.assertEqual(last(*calls, (REACH, k)), gone(calls, k), (calls, k))

    def test_against_the_words(self):
        source = random.Random(9)
        for case in range(60):
            offers = [(source.randint(0, 1), source.randint(1, 3000), source.randint(1, 300))
                      for k in range(source.randint(1, 24))]
            targets = [source.randint(-FAR // 10 ** 7, FAR // 10 ** 7) for k in range(source.randint(0, 20))]
            calls = [(OPEN, FAR, FAR)] + [(1, direction, q, 0, 0, ramp, 0) for direction, q, ramp in offers]
            calls += [(BUY,)] + [(CALL, target) for target in targets]
            places = last(*calls, (PLACES,))[1:]
            lefts = [source.choice((q, source.randint(0, q))) for direction, q, ramp in offers]
            calls += [(AVAIL, number, left) for number, left in enumerate(lefts, start=1)]
            units = [(direction, place, left, ramp)
                     for (direction, q, ramp), place, left in zip(offers, places, lefts)]
            counts = [1, 2, 3, 10, source.randint(4, 999), 1000]
            told = ask(*calls, *[(REACH, k) for k in counts])[len(calls):]
            self.assertEqual(told, [stepped(units, k) for k in counts], (calls, counts))

    def test_four_hundred_calls_in_time(self):
        offers = [(1, k % 2, MOST - k, 0, k % 5, 1 + k, 0) for k in range(24)]
        began = time.perf_counter()
        told = ask((OPEN, FAR, FAR), *offers, (BUY,), *[(REACH, 1000)] * 374)
        self.assertLess(time.perf_counter() - began, 20)
        self.assertEqual(len(told), 400)
        least = -1000 * sum(k + 1 for k in range(24) if k % 2)
        greatest = 1000 * sum(k + 1 for k in range(24) if k % 2 == 0)
        self.assertEqual(told[26:], [[0, least, greatest]] * 374)


if __name__ == "__main__":
    unittest.main()
