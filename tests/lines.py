"""Calls written as tuples, made one list and asked; the answers parted again."""

from reserves.desk import answers

BIG = 10 ** 18

# Where each call has a list, it stands last in its tuple.
OPEN, OFFER, WITHDRAW, NEED, BUY, AGAIN, TAKEN, BOUGHT, VALUE, CALL = range(10)
FORESEE, UNIT, AVAIL, REACH, LADDER, PLACES, TRY, QUARTER, COSTS, BOOK = range(10, 20)


def line(calls):
    flat = []
    for call in calls:
        for part in call:
            if isinstance(part, list):
                flat.append(len(part))
                flat.extend(part)
            else:
                flat.append(part)
    return flat


def parted(told):
    answered = []
    at = 0
    while at < len(told):
        answered.append(told[at + 1:at + 1 + told[at]])
        at += 1 + told[at]
    return answered


def ask(*calls):
    """One list of numbers answered for each call."""
    answered = parted(answers(line(calls)))
    assert len(answered) == len(calls), (calls, answered)
    return answered


def last(*calls):
    return ask(*calls)[-1]


def up(q, capacity=0, energy=0, ramp=10 ** 9, whole=0):
    return (OFFER, 0, q, capacity, energy, ramp, whole)


def down(q, capacity=0, energy=0, ramp=10 ** 9, whole=0):
    return (OFFER, 1, q, capacity, energy, ramp, whole)
