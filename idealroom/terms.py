"""Terms: tuples of the power of each unknown."""

from idealroom.errors import NoTerm


def product(one, other):
    return tuple([power + further for power, further in zip(one, other)])


def goes_into(one, other):
    return all([power <= bound for power, bound in zip(one, other)])


def left_over(one, other):
    if not goes_into(one, other):
        raise NoTerm("the one term does not go into the other")
    return tuple([whole - power for power, whole in zip(one, other)])


def meeting(one, other):
    return tuple([max(power, further) for power, further in zip(one, other)])


def stand_apart(one, other):
    return all([power == 0 or further == 0 for power, further in zip(one, other)])


def degree(term):
    return sum(term)


def alone(many, at, power):
    """The term of so many unknowns in which the one at the place has the power, and no other one has any."""
    return tuple([power if place == at else 0 for place in range(many)])
