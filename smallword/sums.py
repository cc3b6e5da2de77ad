"""Sums: sorted tuples of pairs (term, fraction), each term once, no fraction 0."""

from smallword.fractions import ZERO, plus, times
from smallword.terms import is_fraction, is_term, is_tuple_of


def is_pair(thing):
    """Whether it may stand in a sum."""
    return is_tuple_of(thing, 2) and is_term(thing[0]) and is_fraction(thing[1]) and thing[1] != ZERO


def is_sum(thing):
    if not isinstance(thing, tuple) or not all([is_pair(pair) for pair in thing]):
        return False
    return all([one[0] < other[0] for one, other in zip(thing, thing[1:])])


def sum_of(pairs):
    """The sum of pairs in any order, terms perhaps more than once, fractions perhaps 0."""
    totals = []
    for term, share in sorted(pairs):
        if totals and totals[-1][0] == term:
            totals[-1] = (term, plus(totals[-1][1], share))
        else:
            totals.append((term, share))
    return tuple([total for total in totals if total[1] != ZERO])


def sum_plus(one, other):
    return sum_of(list(one) + list(other))


def sum_times(one, many):
    return sum_of([(term, times(share, many)) for term, share in one])


def less_sum(one, other):
    """The sum of the first term once and the second -1 times."""
    return sum_of([(one, (1, 1)), (other, (-1, 1))])
