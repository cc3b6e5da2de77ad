"""Steps laid behind a paper."""


def laid(paper, steps, places):
    """A paper's steps and, behind them, others that reckoned with these places of it as their first steps."""
    told = list(paper)
    for step in steps:
        if step[0] == "resolve":
            kind, one, other, thing = step
            step = (kind, place_laid(one, paper, places), place_laid(other, paper, places), thing)
        told.append(step)
    return told


def place_laid(number, paper, places):
    if number < len(places):
        return places[number]
    return number - len(places) + len(paper)
