"""Rooms: the sums of multiples of a row that stay within a box."""

from idealroom.clearing import Stairs, whole_row
from idealroom.crossing import is_base
from idealroom.errors import NoBox
from idealroom.lowering import Lowering
from idealroom.polys import monic, reach, scaled
from idealroom.thinning import lean_places

MOST_TERMS = 100


def check_box(ring, box):
    if len(box) != ring.many or any([number < 0 for number in box]):
        raise NoBox("a box has a number from 0 on for each unknown")
    terms = 1
    for number in box:
        terms = terms * (number + 1)
    if terms > MOST_TERMS:
        raise NoBox("the box holds too many terms")


def terms_within(bounds):
    """All terms with no power above its bound; none where a bound is below 0."""
    terms = [()]
    for bound in bounds:
        longer = []
        for term in terms:
            longer.extend([term + (power,) for power in range(bound + 1)])
        terms = longer
    return terms


def shifts(ring, told, box):
    """The tuples (place, term) such that the term times the polynomial at the place is in the box.

    A polynomial that is another one times a number is left out, for it brings nothing new. Those with few terms go
    first: with them lesser numbers are reckoned with.
    """
    found = []
    seen = []
    for at in sorted(range(len(told)), key=lambda place: len(told[place])):
        f = told[at]
        form = monic(ring, f)
        if f != {} and form not in seen:
            seen.append(form)
            bounds = [number - power for number, power in zip(box, reach(ring, f))]
            found.extend([(at, term) for term in terms_within(bounds)])
    return found


class Space:
    """The room of a told row in a box."""

    def __init__(self, ring, told, box):
        self.ring = ring
        self.told = told
        self.terms = ring.order.falling(terms_within(box))
        self.places = {}
        for place, term in enumerate(self.terms):
            self.places[term] = place
        self.stairs = self.empty_stairs()
        # The shifts of which none is a sum of those ahead: the room's multiples are made of these alone.
        self.chosen = []
        for shift in shifts(ring, told, box):
            if self.stairs.gain(self.row_of(shift, {})):
                self.chosen.append(shift)
        self.stairs.finish()

    def empty_stairs(self):
        return Stairs(self.ring.field.prime, len(self.terms))

    def row_of(self, shift, marks):
        """The shift as a row over the places, with marks behind them."""
        numbers = dict(marks)
        f = scaled(self.ring, self.ring.field.one(), shift[1], self.told[shift[0]])
        for term, number in f.items():
            numbers[self.places[term]] = number
        return whole_row(self.ring.field, numbers)

    def poly_of_step(self, step, start):
        found = {}
        for key, number in step.items():
            if key < len(self.terms):
                found[self.terms[key]] = self.ring.field.made(number, step[start])
        return found

    def multiples_of_step(self, step, start):
        multiples = [{} for f in self.told]
        for key, number in step.items():
            if key >= len(self.terms):
                shift = self.chosen[key - len(self.terms)]
                multiples[shift[0]][shift[1]] = self.ring.field.made(number, step[start])
        return multiples

    def polys(self):
        steps = self.stairs.steps
        return [self.poly_of_step(steps[start], start) for start in sorted(list(steps))]

    def polys_with_multiples(self):
        stairs = self.empty_stairs()
        for number, shift in enumerate(self.chosen):
            stairs.gain(self.row_of(shift, {len(self.terms) + number: self.ring.field.one()}))
        stairs.finish()
        found = []
        for start in sorted(list(stairs.steps)):
            step = stairs.steps[start]
            found.append((self.poly_of_step(step, start), self.multiples_of_step(step, start)))
        return found


def room(ring, told, box):
    check_box(ring, box)
    return Space(ring, told, box).polys_with_multiples()


def bare(ring, told, box):
    check_box(ring, box)
    polys = Space(ring, told, box).polys()
    return [polys[at] for at in lean_places(ring, polys)]


def shows_base(ring, told, lean):
    """Whether the bare rows of the told polynomials' room are a base of all sums of their multiples."""
    lowering = Lowering(ring, lean)
    for f in told:
        if not lowering.brings_to_nothing(f):
            return False
    return is_base(ring, lean)


def is_closed(ring, told, box):
    return shows_base(ring, told, bare(ring, told, box))
