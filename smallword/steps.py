"""Steps of papers told from other plain things, and the places that they name."""

from smallword.fractions import sign_of
from smallword.terms import is_fraction, is_term, is_tuple_of, is_whole
from smallword.wishes import is_wish

TWO_TERM_KINDS = ("turn", "calls", "level", "meet")
LEAST_IN_CHAIN = 3


def is_step(thing):
    if is_tuple_of(thing, 2):
        return is_step_of_one(thing[0], thing[1])
    if is_tuple_of(thing, 3):
        return is_step_of_two(thing[0], thing[1], thing[2])
    if not is_tuple_of(thing, 4) or thing[0] != "resolve":
        return False
    return is_count(thing[1]) and is_count(thing[2]) and is_thing(thing[3])


def is_step_of_one(kind, inner):
    if kind == "wish":
        return is_count(inner)
    if kind == "sum":
        return isinstance(inner, tuple) and len(inner) > 0 and all([is_part(part) for part in inner])
    if kind == "self":
        return is_term(inner)
    return kind == "chain" and is_chain(inner)


def is_step_of_two(kind, one, other):
    if kind == "open":
        return is_thing(one) and is_count(other)
    return kind in TWO_TERM_KINDS and is_term(one) and is_term(other)


def is_count(thing):
    """Whether it is a whole number from 0 on."""
    return is_whole(thing) and thing >= 0


def is_thing(thing):
    """Whether it may have a truth in a literal: a wish that is no not."""
    return is_wish(thing) and thing[0] != "not"


def is_part(thing):
    """Whether it may stand in a sum step: a most, its truth and its weight."""
    if not is_tuple_of(thing, 3):
        return False
    atom, truth, weight = thing
    if not is_wish(atom) or atom[0] != "most" or not isinstance(truth, bool):
        return False
    return is_fraction(weight) and sign_of(weight) > 0


def is_chain(thing):
    if not isinstance(thing, tuple) or len(thing) < LEAST_IN_CHAIN:
        return False
    return all([is_term(inner) for inner in thing])


def named_by(step):
    """The places of the steps that a step names."""
    return [step[1], step[2]] if step[0] == "resolve" else []
