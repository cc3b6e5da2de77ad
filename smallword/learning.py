"""Rows of yes and no alone: what truths force by rows, and what is learnt where a row fails."""

from smallword.rows import opposite, resolved
from smallword.showing import shown_wish


def things_in(rows):
    """The things of rows by their texts, each once, as they come."""
    found = {}
    for row in rows:
        for thing, truth in row:
            # Things may lie too deep for keys, so their texts stand for them.
            found.setdefault(shown_wish(thing), thing)
    return found


def masks_of(literals, numbers):
    """Two numbers with a bit for each thing that is to be True, and for each that is to be False."""
    masks = [0, 0]
    for thing, truth in literals:
        text = shown_wish(thing)
        if text in numbers:
            masks[0 if truth else 1] |= 1 << numbers[text]
    return (masks[0], masks[1])


def joined_masks(one, other):
    return (one[0] | other[0], one[1] | other[1])


def open_masks(row, truths):
    """The masks of a row's literals that are open by truths, or None where one of them is true."""
    if row[0] & truths[0] or row[1] & truths[1]:
        return None
    known = truths[0] | truths[1]
    return (row[0] & ~known, row[1] & ~known)


def is_one(masks):
    """Whether masks have just one bit in all."""
    # What is one less turns the lowest bit and those below it alone.
    high = masks[0] or masks[1]
    return high != 0 and 0 in masks and high & (high - 1) == 0


def next_place(rows, truths):
    """The place of the first row that fails, and None; else None and, where there is one, the first that forces."""
    forcing = None
    for place, row in enumerate(rows):
        left = open_masks(row, truths)
        if left == (0, 0):
            return (place, None)
        if forcing is None and left is not None and is_one(left):
            forcing = place
    return (None, forcing)


def forced(rows, truths):
    """The literals that rows force one by one, each with its row's place; and the place of a failing row, or None."""
    found = things_in(rows)
    things = list(found.values())
    numbers = {text: number for number, text in enumerate(found)}
    masks = [masks_of(row, numbers) for row in rows]
    known = masks_of(list(truths.items()), numbers)
    more = []
    while True:
        fails, place = next_place(masks, known)
        if place is None:
            return (more, fails)
        left = open_masks(masks[place], known)
        more.append(((things[max(left).bit_length() - 1], left[0] != 0), place))
        known = joined_masks(known, left)


def learnt(rows, truths):
    """A row that fails by the truths alone, and the resolves that make it; None where no row comes to fail."""
    more, fails = forced(rows, truths)
    if fails is None:
        return None
    row, place = rows[fails], fails
    steps = []
    for literal, giver in reversed(more):
        if opposite(literal) not in row:
            continue
        thing, truth = literal
        if truth:
            row = resolved(rows[giver], row, thing)
            steps.append(("resolve", giver, place, thing))
        else:
            row = resolved(row, rows[giver], thing)
            steps.append(("resolve", place, giver, thing))
        place = len(rows) + len(steps) - 1
    return (row, steps)
