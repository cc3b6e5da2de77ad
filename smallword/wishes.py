"""Wishes told from other plain things, wishes about sums, and what is within wishes."""

from smallword.fractions import contrary
from smallword.showing import shown_term, shown_wish
from smallword.sums import is_sum, sum_of, sum_times
from smallword.terms import is_fraction, is_name, is_term, is_tuple_of, within

ATOM_KINDS = ("flag", "most", "like")


def is_atom(thing):
    if is_tuple_of(thing, 2):
        return thing[0] == "flag" and is_name(thing[1])
    if not is_tuple_of(thing, 3):
        return False
    if thing[0] == "most":
        return is_sum(thing[1]) and is_fraction(thing[2])
    return thing[0] == "like" and is_term(thing[1]) and is_term(thing[2])


def is_wish(thing):
    if not is_tuple_of(thing, 2):
        return is_atom(thing)
    if thing[0] == "not":
        return is_wish(thing[1])
    if thing[0] == "both" or thing[0] == "either":
        return isinstance(thing[1], tuple) and all([is_wish(inner) for inner in thing[1]])
    return is_atom(thing)


def at_most(pairs, bound):
    return ("most", sum_of(pairs), bound)


def at_least(pairs, bound):
    return ("most", sum_times(sum_of(pairs), (-1, 1)), contrary(bound))


def below(pairs, bound):
    return ("not", at_least(pairs, bound))


def above(pairs, bound):
    return ("not", at_most(pairs, bound))


def equal(pairs, bound):
    return ("both", (at_most(pairs, bound), at_least(pairs, bound)))


def wishes_right_in(wish):
    """The wishes right within a wish, as a list: none in an atom."""
    if wish[0] == "not":
        return [wish[1]]
    if wish[0] == "both" or wish[0] == "either":
        return list(wish[1])
    return []


def terms_of_atom(atom):
    """The terms that stand right in an atom, from the left."""
    if atom[0] == "most":
        return [term for term, share in atom[1]]
    if atom[0] == "like":
        return [atom[1], atom[2]]
    return []


def parts_of(wish):
    """A wish and all wishes within it, each once, what is within one ahead of it."""
    found = {}
    gather_parts(wish, found)
    return list(found.values())


def gather_parts(wish, found):
    """Put the parts of a wish into a dict by their texts."""
    # Wishes may lie too deep for keys, so their texts stand for them.
    text = shown_wish(wish)
    if text not in found:
        for inner in wishes_right_in(wish):
            gather_parts(inner, found)
        found[text] = wish


def atoms_in(wish):
    """The atoms among the parts of a wish, in their order."""
    return [part for part in parts_of(wish) if part[0] in ATOM_KINDS]


def terms_in(wish):
    """The terms of a wish's atoms and all within them, each once, what is within one ahead of it."""
    found = {}
    for atom in atoms_in(wish):
        for term in terms_of_atom(atom):
            for inner in within(term):
                found.setdefault(shown_term(inner), inner)
    return list(found.values())


def atoms_of(wishes):
    """The atoms within a list of wishes, sorted, each once."""
    found = {}
    for wish in wishes:
        for atom in atoms_in(wish):
            found.setdefault(shown_wish(atom), atom)
    return sorted(found.values())


def size_of(wish):
    return 1 + sum([size_of(inner) for inner in wishes_right_in(wish)])
