"""Worlds (flags, values, calls): looked over, and what has which value and holds in them."""

from smallword.fractions import ZERO, is_less, plus, times
from smallword.terms import MOST_IN_CALL, is_fraction, is_name, is_tuple_of


def is_call_key(thing):
    """Whether it is a function's name and the tuple of one to three fractions that it is called with."""
    if not is_tuple_of(thing, 2) or not is_name(thing[0]) or not isinstance(thing[1], tuple):
        return False
    return 1 <= len(thing[1]) <= MOST_IN_CALL and all([is_fraction(one) for one in thing[1]])


def is_world(thing):
    if not is_tuple_of(thing, 3) or not all([isinstance(part, dict) for part in thing]):
        return False
    flags, values, calls = thing
    return (
        all([is_name(key) and isinstance(truth, bool) for key, truth in flags.items()])
        and all([is_name(key) and is_fraction(value) for key, value in values.items()])
        and all([is_call_key(key) and is_fraction(value) for key, value in calls.items()])
    )


def value_of(term, world):
    if term[0] == "name":
        return world[1].get(term[1], ZERO)
    inner = tuple([value_of(part, world) for part in term[2]])
    return world[2].get((term[1], inner), ZERO)


def sum_at(pairs, world):
    """The value of a sum in a world."""
    total = ZERO
    for term, share in pairs:
        total = plus(total, times(share, value_of(term, world)))
    return total


def holds(wish, world):
    kind = wish[0]
    if kind == "flag":
        return world[0].get(wish[1], False)
    if kind == "most":
        return not is_less(wish[2], sum_at(wish[1], world))
    if kind == "like":
        return value_of(wish[1], world) == value_of(wish[2], world)
    if kind == "not":
        return not holds(wish[1], world)
    if kind == "both":
        return keeps(wish[1], world)
    return any([holds(inner, world) for inner in wish[1]])


def keeps(wishes, world):
    return all([holds(wish, world) for wish in wishes])
