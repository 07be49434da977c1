"""A desk that keeps a ring, a box and a row of polynomials, and answers lines."""

from idealroom.completing import least_base
from idealroom.corners import how_many
from idealroom.dividing import brought_down
from idealroom.errors import NoLine
from idealroom.fields import Fractions, Rests
from idealroom.orders import Degrees, Order, Tails, Weights
from idealroom.rings import Ring
from idealroom.rooms import check_box
from idealroom.shows import shown
from idealroom.taking import taken_out
from idealroom.texts import FIGURES, NUMBER_FIGURES, read

FIRST_BOUND = 2


def is_whole(word):
    return word != "" and len(word) <= NUMBER_FIGURES and all([sign in FIGURES for sign in word])


class Words:
    """The words of a line, taken one by one; the line is refused where they are not as asked for."""

    def __init__(self, line):
        self.line = line
        self.left = list(reversed(line.split(" ")))

    def word(self):
        if self.left == []:
            raise NoLine(self.line)
        return self.left.pop()

    def number(self):
        word = self.word()
        if not is_whole(word):
            raise NoLine(self.line)
        return int(word)

    def one_of(self, known):
        word = self.word()
        if word not in known:
            raise NoLine(self.line)
        return word

    def end(self):
        if self.left != []:
            raise NoLine(self.line)


def ring_told(words):
    """The ring that the words behind ring tell; all of them are looked at ahead of what they tell."""
    many = words.number()
    prime = None
    if words.one_of(("fractions", "rests")) == "rests":
        prime = words.number()
    kind = words.one_of(("letters", "degrees", "tails", "weights"))
    weights = []
    if kind == "weights":
        weights = [words.number() for place in range(many)]
    words.end()
    field = Fractions() if prime is None else Rests(prime)
    return Ring(many, field, order_told(kind, weights))


def order_told(kind, weights):
    if kind == "letters":
        return Order()
    if kind == "degrees":
        return Degrees()
    if kind == "tails":
        return Tails()
    return Weights(weights)


def all_shown(ring, polys):
    if polys == []:
        return "none"
    return "; ".join([shown(ring, f) for f in polys])


class Desk:
    """Lines are told to it by said; what it keeps is changed only when a line is not refused."""

    def __init__(self):
        self.set_ring(Ring(2, Fractions(), Degrees()))

    def set_ring(self, ring):
        self.ring = ring
        self.box = [FIRST_BOUND] * ring.many
        self.row = []

    def said(self, line):
        if line.startswith("take "):
            return self.taken_up(line[len("take "):])
        if line.startswith("ask "):
            return self.asked(line[len("ask "):])
        words = Words(line)
        command = words.one_of(("ring", "box", "drop", "rows", "base", "out", "count"))
        if command == "ring":
            return self.ring_set(words)
        if command == "box":
            return self.box_set(words)
        if command == "drop":
            return self.dropped(words)
        if command == "out":
            return self.put_out(words)
        words.end()
        if command == "rows":
            return all_shown(self.ring, self.row)
        if command == "base":
            return all_shown(self.ring, least_base(self.ring, self.row, self.box))
        return str(how_many(self.ring, self.row, self.box))

    def ring_set(self, words):
        self.set_ring(ring_told(words))
        return "ready"

    def box_set(self, words):
        box = [words.number() for letter in self.ring.letters()]
        words.end()
        check_box(self.ring, box)
        self.box = box
        return "ready"

    def taken_up(self, text):
        self.row.append(read(self.ring, text))
        return str(len(self.row))

    def dropped(self, words):
        place = words.number()
        words.end()
        if place < 1 or place > len(self.row):
            raise NoLine(words.line)
        self.row.pop(place - 1)
        return str(len(self.row))

    def asked(self, text):
        poly = read(self.ring, text)
        rest = brought_down(self.ring, poly, least_base(self.ring, self.row, self.box))
        if rest == {}:
            return "within"
        return "without " + shown(self.ring, rest)

    def put_out(self, words):
        k = words.number()
        words.end()
        return all_shown(self.ring, taken_out(self.ring, self.row, self.box, k))
