"""Likenings: which terms are the same by likes, and how they came to be joined."""

from smallword.showing import shown_term
from smallword.terms import gather_terms, terms_right_in


class Family:
    """All parts of some terms, rising, each with its place there as its number; and which parts stand in a call."""

    def __init__(self, terms):
        self.parts = parts_in(terms)
        self.numbers = {shown_term(part): number for number, part in enumerate(self.parts)}
        self.inners = [tuple([number_in(self, inner) for inner in terms_right_in(part)]) for part in self.parts]


def parts_in(terms):
    """All parts of terms, rising, each once."""
    found = {}
    for term in terms:
        gather_terms(term, found)
    return sorted(found.values())


def number_in(family, term):
    return family.numbers[shown_term(term)]


def family_of(likes, terms):
    """The family of the terms in likes and of others."""
    return Family([term for pair in likes for term in pair] + list(terms))


def bonds_of(family, likes):
    """Likes as bonds (number, number, place): which parts are joined, and by the like at which place."""
    return [(number_in(family, one), number_in(family, other), place) for place, (one, other) in enumerate(likes)]


def joined(family, bonds):
    """The roots of the parts, alike just where two are the same by bonds; and the bonds that joined them.

    These are the first ones that joined parts, and behind them, with None as place, those of calls whose terms were the
    same by bonds ahead. None is needless, so just one way of them leads from a part to another one.
    """
    roots = list(range(len(family.parts)))
    kept = []
    fresh = bonds
    while fresh:
        for bond in fresh:
            one, other = roots[bond[0]], roots[bond[1]]
            if one != other:
                roots = [other if root == one else root for root in roots]
                kept.append(bond)
        fresh = call_bonds(family, roots)
    return (roots, kept)


def call_bonds(family, roots):
    """Bonds of calls of one function, not yet joined, whose terms are."""
    firsts = {}
    fresh = []
    for number, inner in enumerate(family.inners):
        if inner:
            key = (family.parts[number][1], tuple([roots[part] for part in inner]))
            first = firsts.setdefault(key, number)
            if roots[first] != roots[number]:
                fresh.append((first, number, None))
    return fresh


def roots_by(family, likes):
    return joined(family, bonds_of(family, likes))[0]


def are_same(likes, one, other):
    family = family_of(likes, [one, other])
    roots = roots_by(family, likes)
    return roots[number_in(family, one)] == roots[number_in(family, other)]


def all_classes(likes, terms):
    """All parts of likes and terms, in rising lists of those that are the same."""
    family = family_of(likes, terms)
    found = {}
    for part, root in zip(family.parts, roots_by(family, likes)):
        # The parts rise, so do those of a list, and the lists come by their first ones.
        found.setdefault(root, []).append(part)
    return list(found.values())
