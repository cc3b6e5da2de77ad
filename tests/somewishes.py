"""Lists of wishes by chance, within the bounds of what is decided."""

import itertools

from plain import A, B, ZERO, call, name, parts_plainly, some_term
from smallword.fractions import fraction
from smallword.opening import opened, opened_things
from smallword.sums import less_sum, sum_of


def some_sum(chance, terms):
    if chance.random() < 0.6:
        return ("most", less_sum(chance.choice(terms), chance.choice(terms)), (chance.choice([0, 0, 0, 1, -1]), 1))
    shares = [(term, fraction(chance.randint(-3, 3), chance.randint(1, 3))) for term in terms if chance.random() < 0.6]
    return ("most", sum_of(shares), fraction(chance.randint(-5, 9), chance.randint(1, 3)))


def some_atoms(chance, flags, likes, sums):
    """At most so many flags, likes and sums, over at most forty parts of terms."""
    parts = parts_plainly([some_term(chance, "abcd", 2) for each in range(chance.randint(2, 5))])
    terms = chance.sample(parts, min(len(parts), chance.randint(1, 6)))
    atoms = [("flag", letter) for letter in "pqrstuvw"[:flags]]
    atoms += [("like", chance.choice(parts), chance.choice(parts)) for each in range(likes)]
    atoms += [some_sum(chance, terms) for each in range(sums)]
    return chance.sample(atoms, min(len(atoms), 24))


def some_wish(chance, atoms, depth):
    """A wish over atoms, at most so many boths and eithers within one another."""
    if depth == 0 or chance.random() < 0.2:
        wish = chance.choice(atoms)
    else:
        many = chance.choice([0, 1, 2, 2, 3, 3, 4])
        wish = (chance.choice(["both", "either", "either"]),
                tuple([some_wish(chance, atoms, depth - 1) for each in range(many)]))
    for each in range(chance.choice([0, 0, 0, 1, 1, 2])):
        wish = ("not", wish)
    return wish


def some_wishes(chance, atoms, many, depth):
    """At most so many wishes, such that no bound is gone beyond."""
    wishes = []
    for each in range(many):
        more = wishes + [some_wish(chance, atoms, depth)]
        if len(opened_things(more)) <= 30 and len(opened(more)) <= 400:
            wishes = more
    return wishes


def tight_wishes(chance, kind):
    """Eithers of two or three literals over few terms, so that much is to be learnt: of likes, sums, or of both."""
    terms = [A, B, name("c"), name("d"), call("f", A), call("f", B)]
    atoms = []
    if kind != "sums":
        atoms += [("like", one, other) for one, other in chance.sample(list(itertools.combinations(terms, 2)), 12)]
    if kind != "likes":
        atoms += [("most", less_sum(*chance.sample(terms, 2)), (chance.randint(-2, 2), 1)) for each in range(12)]
    wishes = []
    for each in range(chance.randint(15, 30)):
        some = chance.sample(atoms, chance.choice([2, 3, 3]))
        wishes.append(("either", tuple([atom if chance.random() < 0.5 else ("not", atom) for atom in some])))
    return wishes


def ring(terms):
    """Wishes that each term is at most the next, and the last at most the first: so all are alike."""
    return [("most", less_sum(one, other), ZERO) for one, other in zip(terms, terms[1:] + terms[:1])]
