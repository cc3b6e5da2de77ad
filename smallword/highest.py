"""The highest value that a sum has under bounds."""

from smallword.fractions import fraction
from smallword.tables import (
    closed_point, head_counts, numbers_at, put_sum, raised, refuted, strict_point, table_of, way_of, weights_by)


def highest(bounds, asked):
    """No numbers meet the bounds, or the sum goes up for ever, or it has a highest value."""
    table = table_of(bounds, [asked])
    weights = refuted(table)
    if weights is not None:
        return ("no", weights)
    scale = put_sum(table, asked)
    column = raised(table, False)
    if column is not None:
        return ("open", numbers_at(table, strict_point(table)), numbers_at(table, way_of(table, column)))
    line = table.lines[-1]
    bottom = table.bottom * scale
    weights = weights_by(table, head_counts(table, line), bottom)
    # Below the value by some of the smallest number: then strict bounds are what keeps the sum from it.
    reached = line[-1] == 0
    point = strict_point(table) if reached else closed_point(table)
    return ("highest", fraction(line[-2], bottom), weights, numbers_at(table, point), reached)
