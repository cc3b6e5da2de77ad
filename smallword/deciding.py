"""Wishes decided: a world that keeps them, or a paper that is let by."""

from smallword.checker import rows_by
from smallword.laying import laid
from smallword.opening import opened, opened_things
from smallword.rows import lit
from smallword.seeking import Search, go_back, put_row, resolves_of, sought
from smallword.showing import shown_wish
from smallword.together import together
from smallword.trimming import cut


class Question:
    """Wishes as a search knows them: each thing has a number, each literal one, too, as in a search."""

    def __init__(self, wishes):
        self.things = []
        self.numbers = {}
        self.asked = [literal_of(self, wish) for wish in wishes]
        # Each both and either, what is within one ahead of it: its literal, those of its wishes, and 1 of an either.
        self.frames = []
        for thing in opened_things(wishes):
            inner = [literal_of(self, wish) for wish in thing[1]]
            self.frames.append((literal_of(self, thing), inner, 1 if thing[0] == "either" else 0))


def literal_of(question, wish):
    """The number of the literal that a wish holds; its thing gets a number where it has none."""
    thing, truth = lit(wish, True)
    # Things may lie too deep for keys, so their texts stand for them.
    number = question.numbers.setdefault(shown_wish(thing), len(question.things))
    if number == len(question.things):
        question.things.append(thing)
    return 2 * number + (0 if truth else 1)


def opened_rows(question):
    """The rows of the opening steps, as a search knows them."""
    rows = [[literal] for literal in question.asked]
    for literal, inner, turned in question.frames:
        for part in inner:
            rows.append([literal ^ 1 ^ turned, part ^ turned])
        rows.append(sorted({literal ^ turned} | {part ^ 1 ^ turned for part in inner}))
    return rows


def decided(wishes):
    """("yes", world) that keeps the wishes, or ("no", paper) that is let by for them."""
    question = Question(wishes)
    paper = opened(wishes)
    search = Search(len(question.things))
    places = {}
    for place, row in enumerate(opened_rows(question)):
        places[put_row(search, row)] = place
    while sought(search):
        kind, told = together(needed_literals(question, search.standing))
        if kind == "world":
            return ("yes", told)
        paper = laid(paper, told, [])
        go_back(search, 0)
        row = [literal_of(question, atom) ^ (0 if truth else 1) for atom, truth in rows_by([], told)[-1]]
        places[put_row(search, row)] = len(paper) - 1
    return ("no", cut(paper + resolves_of(search, question.things, places, len(paper))))


def needed_literals(question, standing):
    """Literals of atoms, as truths have them, by which alone all wishes hold: but for flags, none that is needless."""
    framed = {literal: True for literal, inner, turned in question.frames}
    literals = []
    for number, thing in enumerate(question.things):
        if 2 * number in framed:
            continue
        truth = standing[2 * number] > 0
        if thing[0] != "flag":
            fewer = list(standing)
            fewer[2 * number] = fewer[2 * number + 1] = 0
            if are_met(question, fewer):
                standing = fewer
                continue
        literals.append((thing, truth))
    return literals


def are_met(question, standing):
    """Whether all wishes hold by what literals of atoms stand as: 1 for true, -1 for false, 0 for either of both."""
    standing = list(standing)
    for literal, inner, turned in question.frames:
        stands = [standing[part] for part in inner]
        standing[literal] = max(stands, default=-1) if turned else min(stands, default=1)
        standing[literal ^ 1] = -standing[literal]
    return all([standing[literal] > 0 for literal in question.asked])
