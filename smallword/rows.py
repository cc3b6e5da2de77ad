"""Literals (thing, truth), and rows: sorted tuples of literals, one of which holds."""

from smallword.errors import NoStep
from smallword.worlds import holds


def lit(wish, truth):
    """The literal that a wish has this truth, without any not around its thing."""
    while wish[0] == "not":
        wish = wish[1]
        truth = not truth
    return (wish, truth)


def opposite(literal):
    thing, truth = literal
    return (thing, not truth)


def row_of(literals):
    row = []
    for literal in sorted(literals):
        if not row or row[-1] != literal:
            row.append(literal)
    return tuple(row)


def openings(thing):
    """The rows that say of a both or an either what its truth has to do with its wishes."""
    if thing[0] != "both" and thing[0] != "either":
        return []
    # An either is to its wishes' lacks what a both is to its wishes.
    truth = thing[0] == "both"
    rows = [row_of([(thing, not truth), lit(inner, truth)]) for inner in thing[1]]
    rows.append(row_of([(thing, truth)] + [lit(inner, not truth) for inner in thing[1]]))
    return rows


def resolved(row, other, thing):
    """One row resolved with another by a thing, True in the first and False in the other, else NoStep."""
    if (thing, True) not in row or (thing, False) not in other:
        raise NoStep("the thing does not stand in the rows as it must")
    kept = [literal for literal in row if literal != (thing, True)]
    return row_of(kept + [literal for literal in other if literal != (thing, False)])


def row_holds(row, world):
    return any([holds(thing, world) == truth for thing, truth in row])
