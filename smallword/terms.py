"""Names, fractions and terms told from other plain things; what is within terms."""

from smallword.fractions import fraction
from smallword.showing import shown_term

MOST_LETTERS = 8
MOST_IN_CALL = 3


def is_whole(thing):
    """Whether it is a whole number: True and False are none."""
    return isinstance(thing, int) and not isinstance(thing, bool)


def is_tuple_of(thing, count):
    return isinstance(thing, tuple) and len(thing) == count


def is_name(thing):
    if not isinstance(thing, str) or len(thing) > MOST_LETTERS:
        return False
    return thing.isascii() and thing.isalpha() and thing.islower()


def is_fraction(thing):
    if not is_tuple_of(thing, 2) or not is_whole(thing[0]) or not is_whole(thing[1]):
        return False
    return thing[1] >= 1 and fraction(thing[0], thing[1]) == thing


def is_term(thing):
    if is_tuple_of(thing, 2):
        return thing[0] == "name" and is_name(thing[1])
    if is_tuple_of(thing, 3):
        return thing[0] == "call" and is_name(thing[1]) and are_call_terms(thing[2])
    return False


def are_call_terms(thing):
    if not isinstance(thing, tuple) or not 1 <= len(thing) <= MOST_IN_CALL:
        return False
    return all([is_term(inner) for inner in thing])


def terms_right_in(term):
    """The terms right within a term, as a list."""
    return list(term[2]) if term[0] == "call" else []


def within(term):
    """All terms within a term, each once, what is within one ahead of it."""
    found = {}
    gather_terms(term, found)
    return list(found.values())


def gather_terms(term, found):
    """Put the terms within a term into a dict by their texts."""
    # Terms may lie too deep for keys, so their texts stand for them.
    text = shown_term(term)
    if text not in found:
        for inner in terms_right_in(term):
            gather_terms(inner, found)
        found[text] = term


def depth_of(term):
    depths = [depth_of(inner) + 1 for inner in terms_right_in(term)]
    return max(depths, default=0)
