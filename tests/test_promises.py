"""Promises 3 and 4, of long lists with great and small numbers, by what the program itself answers."""

import itertools
import random
import unittest

from tests.lines import AVAIL, BUY, CALL, COSTS, OPEN, PLACES, TRY, UNIT, ask

FAR = 100000000000


def random_list(source, how_many, most_q, most_energy, quarters):
    """open, offers, buy; then quarters, each a list of avails and a target."""
    offers = [(1, source.randint(0, 1), source.randint(1, most_q), source.randint(0, 9),
               source.randint(-most_energy, most_energy), source.randint(1, max(1, most_q // source.choice((1, 3)))),
               source.randint(0, 1) if k < 8 else 0) for k in range(how_many)]
    head = [(OPEN, source.randint(1, most_q * how_many), source.randint(1, most_q * how_many)), *offers, (BUY,)]
    taken = [answer[1] for answer in ask(*head, *[(UNIT, k + 1) for k in range(how_many)])[len(head):]]
    steps = []
    for k in range(quarters):
        avails = []
        for unit in range(how_many):
            if source.random() < 0.15:
                avails.append((AVAIL, unit + 1, source.randint(0, taken[unit])))
        reach = most_q * how_many // source.choice((1, 2, 5)) + 1
        steps.append((avails, (CALL, source.randint(-reach, reach))))
    return offers, head, steps


def asked(offers, head, steps):
    """Of each quarter: the units before it, what call answers, the places, the units after it."""
    units = [(UNIT, k + 1) for k in range(len(offers))]
    calls = list(head)
    for avails, call in steps:
        calls += [*avails, *units, call, (PLACES,), *units]
    assert len(calls) <= 399, len(calls)
    told = ask(*calls, (COSTS,))
    at = len(head)
    found = []
    for avails, call in steps:
        at += len(avails)
        cut = told[at:at + 2 * len(units) + 2]
        found.append((cut[:len(units)], cut[len(units)], cut[len(units) + 1][1:], cut[len(units) + 2:]))
        at += len(cut)
    return found, told[-1]


class Promises(unittest.TestCase):
    def check_quarter(self, offers, target, before, outcome, places, after):
        lows, highs = [unit[4] for unit in before], [unit[5] for unit in before]
        price = outcome[2]
        self.assertEqual(outcome[1], sum(places))
        self.assertEqual(outcome[1], max(sum(lows), min(target, sum(highs))))
        paid = 0
        for offer, low, high, place, old, new in zip(offers, lows, highs, places, before, after):
            self.assertTrue(low <= place <= high)
            if offer[4] < price:
                self.assertEqual(place, high)
            if offer[4] > price:
                self.assertEqual(place, low)
            self.assertEqual(new[3], place)
            self.assertEqual(new[6] - old[6], place)
            # Promise 4 of this quarter alone, and so of any quarters.
            self.assertGreaterEqual(new[7] - old[7], place * offer[4])
            self.assertGreaterEqual(new[7], new[6] * offer[4])
            paid += new[7] - old[7]
        self.assertEqual(outcome[3], paid)

    def others(self, source, before, places):
        """Other places with the same sum: something is moved from one unit to another."""
        lows, highs = [unit[4] for unit in before], [unit[5] for unit in before]
        rooms = []
        for one, two in itertools.permutations(range(len(places)), 2):
            step = min(highs[one] - places[one], places[two] - lows[two])
            if step > 0:
                rooms.append((one, two, step))
        for one, two, step in source.sample(rooms, min(3, len(rooms))):
            step = source.choice((1, step, source.randint(1, step)))
            moved = list(places)
            moved[one] += step
            moved[two] -= step
            yield moved

    def check_list(self, source, offers, head, steps):
        found, costs = asked(offers, head, steps)
        for (avails, call), (before, outcome, places, after) in zip(steps, found):
            self.check_quarter(offers, call[1], before, outcome, places, after)
        self.assertEqual(costs[2], sum(outcome[3] for before, outcome, places, after in found))
        # Once more, with the places of each quarter and others tried ahead of it.
        calls, rivals = list(head), []
        for (avails, call), (before, outcome, places, after) in zip(steps, found):
            calls += avails
            for other in self.others(source, before, places):
                rivals.append((len(calls), len(calls) + 1))
                calls += [(TRY, places), (TRY, other)]
            calls.append(call)
        self.assertLessEqual(len(calls), 400)
        told = ask(*calls)
        for own, other in rivals:
            self.assertEqual(told[own][:2], told[other][:2])
            self.assertLessEqual(told[own][2], told[other][2])
        return len(rivals)

    def test_small_numbers(self):
        source = random.Random(11)
        rivals = 0
        for case in range(60):
            offers, head, steps = random_list(source, source.randint(2, 5), 6, 3, 20)
            rivals += self.check_list(source, offers, head, steps)
        self.assertGreater(rivals, 500)

    def test_great_numbers(self):
        source = random.Random(12)
        for case in range(40):
            self.check_list(source, *random_list(source, source.randint(2, 5), 10 ** 9, 10 ** 6, 20))

    def test_twenty_four_units(self):
        source = random.Random(13)
        for case in range(20):
            self.check_list(source, *random_list(source, 24, 10 ** 9, 10 ** 6, 4))
            self.check_list(source, *random_list(source, 24, 9, 2, 4))

    def test_all_other_places(self):
        """Promise 3 by all places of few units, after avail too."""
        source = random.Random(14)
        for case in range(40):
            offers, head, steps = random_list(source, 3, 4, 3, 12)
            found, costs = asked(offers, head, steps)
            for before, outcome, places, after in found:
                ways = itertools.product(*[range(unit[4], unit[5] + 1) for unit in before])
                worths = [sum(place * offer[4] for place, offer in zip(way, offers))
                          for way in ways if sum(way) == sum(places)]
                self.assertEqual(sum(place * offer[4] for place, offer in zip(places, offers)), min(worths))


class Ends(unittest.TestCase):
    def test_far_targets_put_all_at_their_ends(self):
        source = random.Random(15)
        for case in range(40):
            offers, head, steps = random_list(source, 4, 30, 5, 20)
            steps = [(avails, (CALL, source.choice((-FAR, FAR)))) for avails, call in steps]
            found, costs = asked(offers, head, steps)
            for (avails, call), (before, outcome, places, after) in zip(steps, found):
                self.assertEqual(places, [unit[4 if call[1] < 0 else 5] for unit in before])


if __name__ == "__main__":
    unittest.main()
