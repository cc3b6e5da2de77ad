"""The small checker: what row a step gives, and whether a paper is let by. It searches nothing."""

from smallword.errors import BadStep, NoStep
from smallword.fractions import ZERO, contrary, plus, sign_of, times
from smallword.rows import lit, openings, resolved, row_of
from smallword.steps import is_step
from smallword.sums import less_sum, sum_of


def row_by(wishes, rows, step):
    """The row that a step gives by wishes and the rows ahead; NoStep where it is none or not right."""
    if not is_step(step):
        raise NoStep("this is no step")
    kind = step[0]
    if kind == "wish":
        return row_of([lit(numbered(wishes, step[1]), True)])
    if kind == "open":
        return numbered(openings(step[1]), step[2])
    if kind == "resolve":
        return resolved(numbered(rows, step[1]), numbered(rows, step[2]), step[3])
    if kind == "sum":
        return row_of_sum(step[1])
    if kind == "self":
        return row_of([like(step[1], step[1], True)])
    if kind == "chain":
        return row_of_chain(step[1])
    return row_of_two(kind, step[1], step[2])


def numbered(things, number):
    """The thing of this number from 0 on; NoStep where there is none."""
    if number >= len(things):
        raise NoStep("there is nothing of that number")
    return things[number]


def row_of_sum(parts):
    """The row that says that the parts do not hold together; NoStep where their weights do not show it."""
    atoms = sorted([atom for atom, truth, weight in parts])
    if any([one == other for one, other in zip(atoms, atoms[1:])]):
        raise NoStep("an atom stands in two parts")
    pairs = []
    total = ZERO
    for (kind, inner, bound), truth, weight in parts:
        many = weight if truth else contrary(weight)
        pairs.extend([(term, times(share, many)) for term, share in inner])
        total = plus(total, times(bound, many))
    strict = any([not truth for atom, truth, weight in parts])
    if sum_of(pairs) != () or sign_of(total) > 0 or (sign_of(total) == 0 and not strict):
        raise NoStep("the parts may hold together")
    return row_of([(atom, not truth) for atom, truth, weight in parts])


def row_of_chain(terms):
    literals = [like(one, other, False) for one, other in zip(terms, terms[1:])]
    return row_of(literals + [like(terms[0], terms[-1], True)])


def row_of_two(kind, one, other):
    """The row of a turn, calls, level or meet; NoStep of calls that do not go together."""
    if kind == "turn":
        return row_of([like(one, other, False), like(other, one, True)])
    if kind == "calls":
        return row_of_calls(one, other)
    if kind == "level":
        return row_of([like(one, other, False), not_above(one, other, True)])
    return row_of([not_above(one, other, False), not_above(other, one, False), like(one, other, True)])


def row_of_calls(one, other):
    # The kind, the function and the count of terms have to agree.
    if one[0] != "call" or one[:2] != other[:2] or len(one[2]) != len(other[2]):
        raise NoStep("these are no calls of one function with as many terms")
    literals = [like(inner, beside, False) for inner, beside in zip(one[2], other[2])]
    return row_of(literals + [like(one, other, True)])


def like(one, other, truth):
    """The literal that two terms have one value, or have not."""
    return (("like", one, other), truth)


def not_above(one, other, truth):
    """The literal that a term less another one is at most 0, or is not."""
    return (("most", less_sum(one, other), ZERO), truth)


def rows_by(wishes, paper):
    """The rows of a paper's steps; BadStep at the first that is none or not right."""
    rows = []
    for place, step in enumerate(paper):
        try:
            row = row_by(wishes, rows, step)
        except NoStep:
            raise BadStep(place) from None
        rows.append(row)
    return rows


def lets_by(wishes, paper):
    """Whether a plain thing is a paper of right steps the last of which gives the row ()."""
    if not isinstance(paper, list) or not paper:
        return False
    try:
        rows = rows_by(wishes, paper)
    except BadStep:
        return False
    return rows[-1] == ()
