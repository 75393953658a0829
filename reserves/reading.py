"""How a list of whole numbers is read as calls, and the ranges told for their numbers."""

# Of each call, the least and the greatest of each of its numbers.
NUMBERS = {
    0: ((0, 100000000000), (0, 100000000000)),
    1: ((0, 1), (1, 1000000000), (0, 1000000), (-1000000, 1000000), (1, 1000000000), (0, 1)),
    2: ((-1000000000000000000, 1000000000000000000),),
    3: ((0, 1), (0, 100000000000)),
    4: (),
    5: (),
    6: ((-1000000000000000000, 1000000000000000000),),
    7: ((0, 1),),
    8: ((0, 1),),
    9: ((-100000000000, 100000000000),),
    10: (),
    11: ((-1000000000000000000, 1000000000000000000),),
    12: ((-1000000000000000000, 1000000000000000000), (0, 1000000000)),
    13: ((1, 1000),),
    14: (),
    15: (),
    16: (),
    17: ((1, 96),),
    18: (),
    19: (),
}

# Of each call with a row, the greatest length of the row, the least and the greatest of its numbers.
ROWS = {
    8: (24, 0, 1000000000),
    10: (96, -100000000000, 100000000000),
    16: (24, -1000000000, 1000000000),
}


# A call as it was handed in; a call that has no row has an empty one here.
class Call:
    def __init__(self, kind, numbers, row):
        self.kind = kind
        self.numbers = numbers
        self.row = row


def read_calls(given):
    calls = []
    at = 0
    while at < len(given):
        kind = given[at]
        row_at = at + 1 + len(NUMBERS.get(kind, ()))
        numbers = given[at + 1:row_at]
        row = []
        at = row_at
        if kind in ROWS:
            at = row_at + 1 + given[row_at]
            row = given[row_at + 1:at]
        calls.append(Call(kind, numbers, row))
    return calls


def is_in_range(call):
    if call.kind not in NUMBERS:
        return False
    for number, bounds in zip(call.numbers, NUMBERS[call.kind]):
        if number < bounds[0] or number > bounds[1]:
            return False
    return call.kind not in ROWS or is_row_in_range(call.row, ROWS[call.kind])


def is_row_in_range(row, bounds):
    if len(row) > bounds[0]:
        return False
    return all([bounds[1] <= number <= bounds[2] for number in row])
