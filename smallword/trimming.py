"""Shorter papers: on which wishes one rests, needless steps left out."""

from smallword.checker import row_by, rows_by
from smallword.rows import row_of
from smallword.steps import named_by


def rested_on(paper):
    """The places, rising, of the steps on which the last step rests."""
    needed = [False] * len(paper)
    needed[-1] = True
    for place in range(len(paper) - 1, -1, -1):
        if needed[place]:
            for named in named_by(paper[place]):
                needed[named] = True
    return [place for place, need in enumerate(needed) if need]


def rest_of(paper):
    """The numbers, rising, of the wishes on which the last step rests."""
    steps = [paper[place] for place in rested_on(paper)]
    return sorted({step[1] for step in steps if step[0] == "wish"})


def cut(paper):
    """A paper without the steps on which the last one does not rest."""
    places = rested_on(paper)
    behind = {place: new for new, place in enumerate(places)}
    return [renamed(paper[place], behind) for place in places]


def renamed(step, places):
    """A step that names, in place of each step that it named, the one told for it."""
    if step[0] != "resolve":
        return step
    return ("resolve", places[step[1]], places[step[2]], step[3])


def shortened(wishes, paper):
    """A paper that is let by, with a stand-in, where there is one, for each step."""
    paper = cut(paper)
    literals = literals_in(rows_by(wishes, paper))
    steps, rows, marks, stand_ins = [], [], [], []
    for old in paper:
        step = renamed(old, stand_ins)
        found = spared(step, rows)
        if found is None:
            row = row_by(wishes, rows, step)
            mark = mark_of(row, literals)
            found = first_within(marks, mark)
            if found == len(steps):
                steps.append(step)
                rows.append(row)
                marks.append(mark)
        stand_ins.append(found)
        if rows[found] == ():
            break
    return cut(steps)


def spared(step, rows):
    """The step named by a resolve that lacks what it would take away there, or None."""
    if step[0] != "resolve":
        return None
    kind, one, other, thing = step
    if (thing, True) not in rows[one]:
        return one
    return None if (thing, False) in rows[other] else other


def literals_in(rows):
    """All literals of rows, sorted, each once."""
    return row_of([literal for row in rows for literal in row])


def mark_of(row, literals):
    """A number with a bit for each literal of a row, so that rows are quickly compared."""
    mark = 0
    for literal in row:
        mark |= 1 << place_of(literal, literals)
    return mark


def place_of(thing, things):
    """The place of a thing in sorted ones among which it is."""
    low, high = 0, len(things) - 1
    while low < high:
        middle = (low + high) // 2
        if things[middle] < thing:
            low = middle + 1
        else:
            high = middle
    return low


def first_within(marks, mark):
    """The place of the first mark that has no bit but of this one; their count where there is none."""
    for place, other in enumerate(marks):
        if other & mark == other:
            return place
    return len(marks)
