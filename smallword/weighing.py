"""Bounds on sums: met by numbers, or weighed against one another."""

from smallword.fractions import ZERO, is_less, plus, sign_of, times
from smallword.sums import sum_of
from smallword.tables import numbers_at, refuted, strict_point, table_of


def meets(bounds, numbers):
    return all([is_met(bound, numbers) for bound in bounds])


def is_met(bound, numbers):
    pairs, limit, strict = bound
    total = ZERO
    for term, share in pairs:
        total = plus(total, times(share, numbers.get(term, ZERO)))
    return is_less(total, limit) or (total == limit and not strict)


def added(bounds, weights):
    """The sum and the total to which bounds come, each times its weight."""
    pairs = []
    total = ZERO
    for place, weight in weights:
        pairs.extend([(term, times(share, weight)) for term, share in bounds[place][0]])
        total = plus(total, times(bounds[place][1], weight))
    return (sum_of(pairs), total)


def bears(bounds, weights):
    """Whether weights show that no numbers meet the bounds."""
    places = [place for place, weight in weights]
    rising = all([one < other for one, other in zip(places, places[1:])])
    if not rising or any([sign_of(weight) <= 0 for place, weight in weights]):
        return False
    pairs, total = added(bounds, weights)
    if pairs != () or sign_of(total) > 0:
        return False
    return sign_of(total) < 0 or any([bounds[place][2] for place in places])


def weighed(bounds):
    """Numbers that meet the bounds, or weights that bear a no."""
    table = table_of(bounds, [])
    weights = refuted(table)
    if weights is not None:
        return ("weights", weights)
    return ("numbers", numbers_at(table, strict_point(table)))
