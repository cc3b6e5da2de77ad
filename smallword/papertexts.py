"""Papers as lists of lines, each step written in just one way."""

from smallword.errors import NoPaper, NoText
from smallword.fractiontexts import are_figures, figures_of, fraction_in, fraction_text, number_of
from smallword.reading import read_term, read_wish
from smallword.showing import shown_term, shown_wish
from smallword.steps import TWO_TERM_KINDS, is_step

# It parts the parts of a sum and the terms of other steps; no wish and no term has it.
PARTING = " ; "


def step_text(step):
    return step[0] + " " + inner_text(step)


def inner_text(step):
    """What stands behind the first word of a step's line."""
    kind = step[0]
    if kind == "wish":
        return figures_of(step[1])
    if kind == "open":
        return figures_of(step[2]) + " " + shown_wish(step[1])
    if kind == "resolve":
        return figures_of(step[1]) + " " + figures_of(step[2]) + " " + shown_wish(step[3])
    if kind == "sum":
        return PARTING.join([part_text(part) for part in step[1]])
    terms = step[1] if kind == "chain" else step[1:]
    return PARTING.join([shown_term(term) for term in terms])


def part_text(part):
    atom, truth, weight = part
    return ("+ " if truth else "- ") + fraction_text(weight) + " " + shown_wish(atom)


def shown_paper(paper):
    return [step_text(step) for step in paper]


def read_paper(lines):
    """The paper that lines write; NoPaper at the first that writes no step."""
    paper = []
    for place, line in enumerate(lines):
        step = step_in(line)
        if step is None:
            raise NoPaper(place)
        paper.append(step)
    return paper


def step_in(line):
    """The step that a line writes just as step_text does, else None."""
    kind, blank, inner = line.partition(" ")
    try:
        step = loose_step(kind, inner)
    except NoText:
        return None
    return step if is_step(step) and step_text(step) == line else None


def loose_step(kind, inner):
    """What a line tells that may still be no step or not written just so; NoText of some that tell nothing."""
    first, blank, rest = inner.partition(" ")
    if kind == "wish":
        return (kind, number_in(inner))
    if kind == "open":
        return (kind, read_wish(rest), number_in(first))
    if kind == "resolve":
        second, blank, wish = rest.partition(" ")
        return (kind, number_in(first), number_in(second), read_wish(wish))
    pieces = inner.split(PARTING)
    if kind == "sum":
        return (kind, tuple([loose_part(piece) for piece in pieces]))
    terms = tuple([read_term(piece) for piece in pieces])
    if kind == "self" or kind in TWO_TERM_KINDS:
        return (kind,) + terms
    return (kind, terms)


def number_in(figures):
    """The whole number that figures write, or None of what are no figures."""
    return number_of(figures) if are_figures(figures) else None


def loose_part(piece):
    """What a part of a sum's line tells, as loosely as loose_step."""
    sign, blank, rest = piece.partition(" ")
    weight, blank, atom = rest.partition(" ")
    return (read_wish(atom), sign == "+", fraction_in(weight))
