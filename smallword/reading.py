"""Texts read as wishes and terms, word by word."""

from smallword.errors import NoText
from smallword.fractiontexts import fraction_in
from smallword.terms import MOST_IN_CALL, is_name
from smallword.wishes import above, at_least, at_most, below, equal

MOST_BRACKETS = 30

# What a wish's first word makes of its bracket.
KINDS = {
    "not": "not", "all": "all", "any": "any", "like": "like",
    "most": "sum", "least": "sum", "below": "sum", "above": "sum", "equal": "sum",
}


class Bracket:
    """What a ( began, by its kind, its first word and what was read in it so far.

    One of the kind "whole" stands for the text itself; its first word tells what the text is to write.
    """

    def __init__(self, kind, first):
        self.kind = kind
        self.first = first
        self.things = []


def read_term(text):
    return read_as("term", text)


def read_wish(text):
    return read_as("wish", text)


def read_as(want, text):
    """The term or the wish that a text writes; NoText at its first word that can not stand."""
    words = text.split(" ")
    brackets = [Bracket("whole", want)]
    for at, word in enumerate(words):
        if not takes_word(brackets, word):
            raise NoText(at)
    if len(brackets) > 1:
        raise NoText(len(words))
    return brackets[0].things[0]


def takes_word(brackets, word):
    """Read one word into the brackets that are begun; False where it can not stand there."""
    bare = word.removeprefix("(")
    core = bare.rstrip(")")
    fits = begins(brackets, core) if word.startswith("(") else is_put(brackets, core)
    if not fits:
        return False
    for turn in range(len(bare) - len(core)):
        if not closes(brackets):
            return False
    return True


def begins(brackets, first):
    """Begin a bracket with this first word; False where none such can stand."""
    want = wanted(brackets[-1])
    kind = None
    if want == "wish":
        kind = KINDS.get(first)
    elif want == "term" and is_name(first):
        kind = "call"
    # The whole text counts in the list but has no bracket of its own.
    if kind is None or len(brackets) > MOST_BRACKETS:
        return False
    brackets.append(Bracket(kind, first))
    return True


def is_put(brackets, core):
    """Put a word without a ( into the last bracket; False where it can not stand there."""
    thing = thing_in(core, wanted(brackets[-1]))
    if thing is None:
        return False
    brackets[-1].things.append(thing)
    return True


def thing_in(core, want):
    """What a word without brackets tells where this is wanted, or None."""
    if want == "fraction":
        return fraction_in(core)
    if want is None or not is_name(core):
        return None
    return ("flag", core) if want == "wish" else ("name", core)


def closes(brackets):
    """End the last bracket and put what it tells into the one around it; False where it can not end."""
    last = brackets[-1]
    if not may_end(last):
        return False
    brackets.pop()
    brackets[-1].things.append(told_by(last))
    return True


def wanted(bracket):
    """What may come next in a bracket, or None where it has all that it may have."""
    many = len(bracket.things)
    if bracket.kind == "whole":
        return bracket.first if many == 0 else None
    if bracket.kind == "not":
        return "wish" if many == 0 else None
    if bracket.kind == "like":
        return "term" if many < 2 else None
    if bracket.kind == "call":
        return "term" if many < MOST_IN_CALL else None
    if bracket.kind == "sum":
        return "fraction" if many % 2 == 0 else "term"
    return "wish"


def may_end(bracket):
    """Whether a bracket has all that it must have."""
    many = len(bracket.things)
    if bracket.kind == "not" or bracket.kind == "call":
        return many >= 1
    if bracket.kind == "like":
        return many == 2
    if bracket.kind == "sum":
        return many % 2 == 1
    return bracket.kind != "whole"


def told_by(bracket):
    """The term or the wish that a bracket tells which has all that it must have."""
    things = bracket.things
    if bracket.kind == "call":
        return ("call", bracket.first, tuple(things))
    if bracket.kind == "not":
        return ("not", things[0])
    if bracket.kind == "like":
        return ("like", things[0], things[1])
    if bracket.kind == "all":
        return ("both", tuple(things))
    if bracket.kind == "any":
        return ("either", tuple(things))
    pairs = [(things[at + 1], things[at]) for at in range(0, len(things) - 1, 2)]
    return sum_wish(bracket.first, pairs, things[-1])


def sum_wish(first, pairs, bound):
    if first == "most":
        return at_most(pairs, bound)
    if first == "least":
        return at_least(pairs, bound)
    if first == "below":
        return below(pairs, bound)
    if first == "above":
        return above(pairs, bound)
    return equal(pairs, bound)
