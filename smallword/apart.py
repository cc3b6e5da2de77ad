"""Numbers that meet bounds and at which no sum is 0."""

from smallword.fractions import common_divisor
from smallword.sums import sum_times
from smallword.tables import (
    closed_point, counts_of, head_counts, numbers_at, put_sum, raised, refuted, scale_of, shares_in, strict_point,
    table_of, take_sum, way_of, weights_by)


def apart(bounds, sums):
    """No numbers meet the bounds, or one of the sums is 0 at all that do, or numbers at which none is."""
    table = table_of(bounds, sums)
    weights = refuted(table)
    if weights is not None:
        return ("no", weights)
    counts = [counts_of(pairs, table.terms, scale_of(shares_in(pairs))) for pairs in sums]
    point = strict_point(table)
    for place, pairs in enumerate(sums):
        if worth(counts[place], point) != 0:
            continue
        under, aim = aimed(table, pairs)
        over = None
        if aim is None:
            over, aim = aimed(table, sum_times(pairs, (-1, 1)))
        if aim is None:
            return ("level", place, under, over)
        point = moved(point, aim, counts)
    return ("numbers", numbers_at(table, point))


def aimed(table, pairs):
    """Weights by which a sum that is somewhere 0 is 0 at most, or None and where it is more.

    That is told as tops, a bottom, and whether one may go there alone (0) or that way for ever (1).
    """
    scale = put_sum(table, pairs)
    column = raised(table, True)
    weights, aim = None, None
    if column is not None:
        aim = way_of(table, column) + (1,)
    elif table.lines[-1][-2] > 0:
        aim = closed_point(table) + (0,)
    else:
        weights = weights_by(table, head_counts(table, table.lines[-1]), table.bottom * scale)
    take_sum(table)
    return (weights, aim)


def worth(counts, point):
    """What a sum comes to at a point, scaled and times the point's bottom."""
    return sum([count * top for count, top in zip(counts, point[0])])


def moved(point, aim, counts):
    """A point on the way to an aim, not there, at which no sum is 0 that is not 0 at one of both."""
    tops, bottom = point
    aims, share, far = aim
    parts = 2
    # Each sum is 0 at one place of the way at most, so not all of them can be in the way.
    while any([is_lost(count, point, aim, parts) for count in counts]):
        parts += 1
    whole = [top * share * (parts - 1 + far) + other * bottom for top, other in zip(tops, aims)]
    return in_lowest(whole, bottom * share * parts)


def is_lost(counts, point, aim, parts):
    """Whether a sum that is not 0 at the point is 0 on the way to the aim, one of so many parts of it done."""
    at_point = worth(counts, point)
    return at_point != 0 and at_point * aim[1] * (parts - 1 + aim[2]) + worth(counts, aim) * point[1] == 0


def in_lowest(tops, bottom):
    """The same point with no common divisor, so that its numbers stay short."""
    shared = bottom
    for top in tops:
        shared = common_divisor(shared, top)
    return ([top // shared for top in tops], bottom // shared)
