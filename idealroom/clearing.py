"""Rows of whole numbers: dicts from keys to numbers, of which it matters only how they stand to one another.

As a row may be multiplied by any number but nought, it needs no fractions, and what its numbers share is looked for
once for the whole row: so great numbers are reckoned with far sooner than number by number.
"""

from idealroom.fields import shared_divisor


def whole_row(field, numbers):
    """A dict of numbers of the field, all of them multiplied by the same, as a row."""
    if field.prime != 0:
        return dict(numbers)
    bottom = 1
    for number in numbers.values():
        bottom = bottom // shared_divisor(bottom, number[1]) * number[1]
    row = {}
    for key, number in numbers.items():
        row[key] = number[0] * (bottom // number[1])
    return row


def shared_by_all(row):
    shared = 0
    for number in row.values():
        shared = shared_divisor(abs(number), shared)
        if shared == 1:
            return 1
    return shared


def lessened(prime, row):
    """The row without noughts, its numbers as small as they may be: their rests, or without what they all share."""
    found = {}
    for key, number in row.items():
        if prime != 0:
            number = number % prime
        if number != 0:
            found[key] = number
    if prime != 0:
        return found
    shared = shared_by_all(found)
    if shared > 1:
        for key in list(found):
            found[key] = found[key] // shared
    return found


def cleared(prime, row, other, key):
    """The row, multiplied, and as many times the other row taken from it that nought is at the key."""
    shared = shared_divisor(abs(row[key]), abs(other[key]))
    many = other[key] // shared
    fewer = row[key] // shared
    found = {}
    for at, number in row.items():
        found[at] = number * many
    for at, number in other.items():
        found[at] = found.get(at, 0) - number * fewer
    return lessened(prime, found)


class Stairs:
    """Rows that stand apart: each begins at a place of its own.

    The keys are whole numbers; those below width are places, those from width on are only carried along.
    """

    def __init__(self, prime, width):
        self.prime = prime
        self.width = width
        self.steps = {}

    def lowered(self, row, start):
        """The row, cleared at each place from start on at which a step begins."""
        for place in range(start, self.width):
            if place in row and place in self.steps:
                row = cleared(self.prime, row, self.steps[place], place)
        return row

    def gain(self, row):
        """Takes a row as a step, but where it is a sum of steps already; tells whether it was taken."""
        if len(self.steps) == self.width:
            return False
        row = self.lowered(row, 0)
        start = min(row, default=self.width)
        if start >= self.width:
            return False
        self.steps[start] = row
        return True

    def finish(self):
        """Clears each step at the places where others begin."""
        for place in sorted(list(self.steps), reverse=True):
            self.steps[place] = self.lowered(self.steps[place], place + 1)
