"""The steps with which a paper of wishes begins: the wishes, and what opens their parts."""

from smallword.showing import shown_wish
from smallword.wishes import parts_of


def opened_things(wishes):
    """Each both and each either among the parts of wishes, once, wish by wish, what is within one ahead of it."""
    found = {}
    for wish in wishes:
        for part in parts_of(wish):
            if part[0] == "both" or part[0] == "either":
                # Wishes may lie too deep for keys, so their texts stand for them.
                found.setdefault(shown_wish(part), part)
    return list(found.values())


def opened(wishes):
    """The opening steps of wishes."""
    steps = [("wish", number) for number in range(len(wishes))]
    for thing in opened_things(wishes):
        # There is an opening for each wish within it, and one for all of them.
        steps.extend([("open", thing, number) for number in range(len(thing[1]) + 1)])
    return steps
