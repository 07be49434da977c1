"""The fields: the fractions, and the rests by a prime."""

from idealroom.errors import NoOver, NoPrime

GREATEST_PRIME = 9973


def shared_divisor(one, other):
    """The greatest number that divides both; neither is below 0, and not both are 0."""
    while other != 0:
        rest = one % other
        one = other
        other = rest
    return one


def is_prime(number):
    if number < 2:
        return False
    divisor = 2
    while divisor * divisor <= number:
        if number % divisor == 0:
            return False
        divisor += 1
    return True


class Field:
    """What both fields reckon alike; it is not made itself."""

    def __init__(self, prime):
        self.prime = prime

    def minus(self, a, b):
        return self.plus(a, self.against(b))

    def over(self, a, b):
        return self.times(a, self.turned(b))


class Fractions(Field):
    """Numbers are tuples (top, bottom) without shared divisor, bottom from 1 on."""

    def __init__(self):
        Field.__init__(self, 0)

    def nought(self):
        return (0, 1)

    def one(self):
        return (1, 1)

    def made(self, top, bottom=1):
        if bottom == 0:
            raise NoOver("a fraction has the bottom 0")
        divisor = shared_divisor(abs(top), abs(bottom))
        # The sign of the bottom goes over to the top, so that each fraction has but one form.
        if bottom < 0:
            divisor = -divisor
        return (top // divisor, bottom // divisor)

    # Sums and products look for shared divisors where alone they can be, among lesser numbers: to find them in the
    # whole of great tops and bottoms takes long. Whole numbers have none to be looked for.

    def plus(self, a, b):
        if a[1] == 1 and b[1] == 1:
            return (a[0] + b[0], 1)
        shared = shared_divisor(a[1], b[1])
        top = a[0] * (b[1] // shared) + b[0] * (a[1] // shared)
        further = shared_divisor(abs(top), shared)
        return (top // further, a[1] // shared * (b[1] // further))

    def times(self, a, b):
        if a[1] == 1 and b[1] == 1:
            return (a[0] * b[0], 1)
        one = shared_divisor(abs(a[0]), b[1])
        other = shared_divisor(abs(b[0]), a[1])
        return (a[0] // one * (b[0] // other), a[1] // other * (b[1] // one))

    def against(self, a):
        return (-a[0], a[1])

    def turned(self, a):
        return self.made(a[1], a[0])


class Rests(Field):
    """Numbers are the whole numbers from 0 to prime - 1."""

    def __init__(self, prime):
        # The bound goes first: to try the divisors of a number of sixty figures would not end.
        if prime > GREATEST_PRIME or not is_prime(prime):
            raise NoPrime("not a prime from 2 to 9973")
        Field.__init__(self, prime)

    def nought(self):
        return 0

    def one(self):
        return 1

    def made(self, top, bottom=1):
        return self.over(top % self.prime, bottom % self.prime)

    def plus(self, a, b):
        return (a + b) % self.prime

    def times(self, a, b):
        return a * b % self.prime

    def against(self, a):
        return -a % self.prime

    def turned(self, a):
        if a == 0:
            raise NoOver("nought is not turned over")
        # As prime = many * left + rest, left turned over is -many times rest turned over;
        # rest is never 0, for left is less than the prime and above 1.
        found = 1
        left = a
        while left != 1:
            found = -found * (self.prime // left) % self.prime
            left = self.prime % left
        return found
