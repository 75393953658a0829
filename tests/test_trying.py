"""try: whether places can be stood at next quarter, their sum and what they are worth."""

import random
import unittest

from tests.lines import AVAIL, BIG, BUY, CALL, OPEN, PLACES, TRY, UNIT, ask, down, last, up

MOST = 1000000000
FAR = 100000000000
# After this unit 1 (up, ramp 4) stands at 8, unit 2 (down, ramp 3) at 0, unit 3 (up, ramp 6) at 10.
STANDING = [(OPEN, 20, 8), up(10, 1, 30, 4), down(8, 2, 10, 3), up(10, 3, -20, 6), (BUY,), (CALL, 18), (CALL, 18)]


class Try(unittest.TestCase):
    def test_ordinary(self):
        told = ask(*STANDING, (PLACES,), (TRY, [8, 0, 10]), (TRY, [5, -2, 7]))
        self.assertEqual(told[7:], [[0, 8, 0, 10], [0, 18, 240 - 200], [0, 10, 150 - 20 - 140]])

    def test_each_at_its_lowest_and_highest_and_one_beyond(self):
        lows, highs, energies = [4, -3, 4], [10, 0, 10], [30, 10, -20]
        for at in range(3):
            for edge, beyond in ((lows[at], lows[at] - 1), (highs[at], highs[at] + 1)):
                for places in (list(lows), list(highs)):
                    places[at] = edge
                    worth = sum(place * energy for place, energy in zip(places, energies))
                    self.assertEqual(last(*STANDING, (TRY, places)), [0, sum(places), worth], places)
                    places[at] = beyond
                    self.assertEqual(last(*STANDING, (TRY, places)), [-5], places)

    def test_on_the_wrong_side_of_0(self):
        prefix = [(OPEN, 5, 5), up(5), down(5), (BUY,)]
        told = ask(*prefix, (TRY, [5, -5]), (TRY, [-1, 0]), (TRY, [0, 1]), (TRY, [0, 0]), (TRY, [-5, 5]))
        self.assertEqual(told[4:], [[0, 0, 0], [-5], [-5], [0, 0, 0], [-5]])

    def test_another_length(self):
        for places in ([], [8, 0], [8, 0, 10, 0], [8, 0, 10] * 8, [MOST] * 24):
            self.assertEqual(last(*STANDING, (TRY, places)), [-4], places)
        told = ask((OPEN, 0, 0), (BUY,), (TRY, []), (TRY, [0]))
        self.assertEqual(told[2:], [[0, 0, 0], [-4]])

    def test_another_length_before_no_place(self):
        self.assertEqual(last(*STANDING, (TRY, [MOST, MOST])), [-4])
        self.assertEqual(last(*STANDING, (TRY, [-MOST] * 4)), [-4])

    def test_edges(self):
        for places in ([8, 0, MOST + 1], [-MOST - 1, 0, 10], [0] * 25, [0] * 100, [BIG, 0, 0], [-BIG]):
            self.assertEqual(last(*STANDING, (TRY, places)), [-1], places)
        for places in ([8, 0, MOST], [-MOST, 0, 10]):
            self.assertEqual(last(*STANDING, (TRY, places)), [-5], places)
        full = [(OPEN, FAR, FAR)] + [up(MOST, 0, 10 ** 6)] * 12 + [down(MOST, 0, -10 ** 6)] * 12 + [(BUY,)]
        self.assertEqual(last(*full, (TRY, [MOST] * 12 + [-MOST] * 12)), [0, 0, 24 * 10 ** 15])
        self.assertEqual(last(*full, (TRY, [MOST] * 12 + [0] * 12)), [0, 12 * MOST, 12 * 10 ** 15])

    def test_after_avail(self):
        told = ask(*STANDING, (AVAIL, 1, 3), (AVAIL, 2, 1), (AVAIL, 3, 5), (TRY, [3, -1, 5]), (TRY, [3, 0, 4]),
                   (TRY, [2, 0, 4]), (TRY, [4, 0, 4]), (TRY, [3, -2, 4]), (TRY, [3, 0, 6]))
        self.assertEqual(told[10:], [[0, 7, -20], [0, 7, 10], [-5], [-5], [-5], [-5]])

    def test_it_changes_nothing(self):
        told = ask(*STANDING, (UNIT, 1), (TRY, [4, -3, 4]), (TRY, [3, 0, 0]), (UNIT, 1), (PLACES,), (CALL, 18))
        self.assertEqual(told[7], told[10])
        self.assertEqual(told[11:], [[0, 8, 0, 10], [0, 18, 30, 540]])

    def test_as_unit_tells_it(self):
        """A place can be tried just if it lies between the unit's lowest and highest."""
        source = random.Random(10)
        for case in range(100):
            direction = source.randint(0, 1)
            offer = (1, direction, source.randint(1, 12), 0, source.randint(-3, 3), source.randint(1, 5), 0)
            calls = [(OPEN, 12, 12), offer, (BUY,)]
            for k in range(source.randint(0, 4)):
                calls.append((CALL, source.randint(-12, 12)))
            if source.random() < 0.6:
                calls.append((AVAIL, 1, source.randint(0, offer[2])))
            low, high = last(*calls, (UNIT, 1))[4:6]
            tried = range(-14, 15)
            told = ask(*calls, *[(TRY, [place]) for place in tried])[len(calls):]
            self.assertEqual(told, [[0, place, place * offer[4]] if low <= place <= high else [-5]
                                    for place in tried], calls)


if __name__ == "__main__":
    unittest.main()
