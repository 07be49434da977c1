"""Crossed pairs, and rows that are bases."""

from idealroom.lowering import Lowering
from idealroom.polys import first_term, minus, scaled
from idealroom.terms import goes_into, left_over, meeting, stand_apart


def fitted(ring, f, lead, met):
    """The polynomial, made monic and scaled so that its first term becomes the meeting."""
    return scaled(ring, ring.field.turned(f[lead]), left_over(lead, met), f)


def crossed(ring, f, g):
    one = first_term(ring, f)
    other = first_term(ring, g)
    met = meeting(one, other)
    return minus(ring, fitted(ring, f, one, met), fitted(ring, g, other, met))


def leads_by_place(ring, row):
    leads = {}
    for at, f in enumerate(row):
        if f != {}:
            leads[at] = first_term(ring, f)
    return leads


def turns_of(ring, leads):
    """For each pair what it is ranked by: of two pairs the one with the less comes ahead."""
    turns = {}
    for i in leads:
        for j in leads:
            if i < j:
                turns[(i, j)] = (ring.order.rank(meeting(leads[i], leads[j])), i, j)
    return turns


def lets_by(leads, turns, pair, k):
    """Whether the third place k makes it needless to look at the pair."""
    i = pair[0]
    j = pair[1]
    if k == i or k == j or not goes_into(leads[k], meeting(leads[i], leads[j])):
        return False
    turn = turns[pair]
    return turns[(min(i, k), max(i, k))] < turn and turns[(min(j, k), max(j, k))] < turn


def is_due(leads, turns, pair):
    if stand_apart(leads[pair[0]], leads[pair[1]]):
        return False
    for k in leads:
        if lets_by(leads, turns, pair, k):
            return False
    return True


def pairs(ring, row):
    leads = leads_by_place(ring, row)
    turns = turns_of(ring, leads)
    ahead = sorted(turns, key=lambda pair: turns[pair])
    return [pair for pair in ahead if is_due(leads, turns, pair)]


def is_base(ring, row):
    leads = leads_by_place(ring, row)
    lowering = Lowering(ring, row)
    for i, j in pairs(ring, row):
        if not lowering.crossed_to_nothing(i, j, leads[i], leads[j]):
            return False
    return True
