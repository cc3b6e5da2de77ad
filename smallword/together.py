"""Literals of atoms together: a world in which all hold, or steps that show that there is none."""

from smallword.apart import apart
from smallword.checker import like, not_above
from smallword.classes import Family, bonds_of, joined, number_in
from smallword.fractions import contrary, sign_of, times
from smallword.laying import laid
from smallword.reasons import reason_within, steps_by
from smallword.showing import shown_wish
from smallword.sums import less_sum, sum_of, sum_times
from smallword.trimming import cut
from smallword.wishes import terms_of_atom

LETTERS = "abcdefghijklmnopqrstuvwxyz"


class Case:
    """Given literals, what is learnt of them, and the steps that tell it.

    Each row of a step that is kept by its place has, beside what it tells, contraries of given literals alone.
    """

    def __init__(self, literals):
        atoms = [atom for atom, truth in literals]
        self.family = Family([term for atom in atoms for term in terms_of_atom(atom)])
        self.truths = {shown_wish(atom): truth for atom, truth in literals}
        self.likes = [(atom[1], atom[2]) for atom, truth in literals if atom[0] == "like" and truth]
        self.unlikes = [(atom[1], atom[2]) for atom, truth in literals if atom[0] == "like" and not truth]
        self.sums = [(atom, truth) for atom, truth in literals if atom[0] == "most"]
        self.steps = []
        # By places of likes that were learnt from sums the places of the steps that tell them.
        self.learnt = {}
        self.roots = []


def together(literals):
    """("world", world) in which all the literals hold, or ("steps", steps) whose last row none of them meets."""
    case = Case(literals)
    while True:
        case.roots = joined(case.family, bonds_of(case.family, case.likes))[0]
        if lay_broken(case):
            return ("steps", cut(case.steps))
        firsts = first_terms(case)
        pairs = [(one, other) for at, one in enumerate(firsts) for other in firsts[:at]]
        told = apart([bound_of(case, atom, truth) for atom, truth in case.sums],
                     [less_sum(stand_in(case, one), stand_in(case, other)) for one, other in pairs])
        if told[0] == "numbers":
            return ("world", world_of(case, literals, told[1]))
        if told[0] == "no":
            lay_sum(case, told[1], [])
            return ("steps", cut(case.steps))
        kind, place, under, over = told
        learn(case, pairs[place], under, over)


def root_of(case, term):
    return case.roots[number_in(case.family, term)]


def are_joined(case, one, other):
    return root_of(case, one) == root_of(case, other)


def lay_broken(case):
    """Whether likes tell the contrary of a given literal: then steps are laid whose last row tells it."""
    for one, other in case.unlikes:
        if are_joined(case, one, other):
            lay_same(case, one, other)
            return True
    for atom, truth in case.sums:
        terms = terms_of_atom(atom)
        if truth or len(terms) != 2 or not are_joined(case, terms[0], terms[1]):
            continue
        for one, other in (terms, terms[::-1]):
            if atom == not_above(one, other, True)[0]:
                lay_level(case, one, other)
                return True
    return False


def first_terms(case):
    """Of the terms in sums the first one of each class."""
    found = {}
    for atom, truth in case.sums:
        for term in terms_of_atom(atom):
            found.setdefault(root_of(case, term), term)
    return list(found.values())


def stand_in(case, term):
    """A short name for all terms that are the same as a term."""
    root = root_of(case, term)
    return ("name", LETTERS[root // len(LETTERS)] + LETTERS[root % len(LETTERS)])


def bound_of(case, atom, truth):
    """What a sum's literal asks of the numbers of classes, as a bound."""
    pairs = sum_of([(stand_in(case, term), share) for term, share in atom[1]])
    if truth:
        return (pairs, atom[2], False)
    return (sum_times(pairs, (-1, 1)), contrary(atom[2]), True)


def lay(case, step):
    """The place of a step that is laid behind the others."""
    case.steps.append(step)
    return len(case.steps) - 1


def is_given(case, literal):
    return case.truths.get(shown_wish(literal[0])) == literal[1]


def lay_same(case, one, other):
    """The place of a step that tells that two terms, the same by likes, are alike."""
    places = reason_within(case.family, case.likes, one, other)
    case.steps = laid(case.steps, steps_by(case.family, [case.likes[place] for place in places], one, other), [])
    told = len(case.steps) - 1
    for place in places:
        if place in case.learnt:
            told = lay(case, ("resolve", case.learnt[place], told, ("like",) + case.likes[place]))
    return told


def lay_level(case, one, other):
    """The place of a step that tells that a term less one that is the same is at most 0."""
    told = lay(case, ("level", one, other))
    if is_given(case, like(one, other, True)):
        return told
    return lay(case, ("resolve", lay_same(case, one, other), told, ("like", one, other)))


def lay_sum(case, weights, more):
    """The place of a step that tells that given sums with these weights, and more parts, do not hold together."""
    parts = [case.sums[place] + (weight,) for place, weight in weights] + more
    pairs = pairs_left(case, parts)
    levels = [(not_above(one, other, True)[0], True, weight) for one, other, weight in pairs]
    told = lay(case, ("sum", tuple(parts + levels)))
    for one, other, weight in pairs:
        if not is_given(case, not_above(one, other, True)):
            told = lay(case, ("resolve", lay_level(case, one, other), told, not_above(one, other, True)[0]))
    return told


def pairs_left(case, parts):
    """The terms that are to be taken away from others of their classes, how often, so that parts come to ()."""
    left = []
    for atom, truth, weight in parts:
        left.extend([(term, times(share, weight if truth else contrary(weight))) for term, share in atom[1]])
    firsts = {root_of(case, term): term for term in first_terms(case)}
    pairs = []
    for term, share in sum_of(left):
        first = firsts[root_of(case, term)]
        if term != first and sign_of(share) > 0:
            pairs.append((first, term, share))
        elif term != first:
            pairs.append((term, first, contrary(share)))
    return pairs


def learn(case, pair, under, over):
    """Put a like to the likes that sums tell by these weights."""
    one, other = pair
    told = lay(case, ("meet", one, other))
    for left, right, weights in ((one, other, under), (other, one, over)):
        atom, truth = not_above(left, right, True)
        if not is_given(case, (atom, True)):
            told = lay(case, ("resolve", lay_sum(case, weights, [(atom, False, (1, 1))]), told, atom))
    case.learnt[len(case.likes)] = told
    case.likes.append(pair)


def world_of(case, literals, numbers):
    """A world of numbers for the classes in sums, each other class with a number of its own."""
    # Whole numbers above all of these are told of no class in sums.
    fresh = max([top // bottom for top, bottom in numbers.values()], default=0) + 1
    values = [numbers.get(stand_in(case, part), (fresh + root, 1)) for part, root in zip(case.family.parts, case.roots)]
    flags = {atom[1]: truth for atom, truth in literals if atom[0] == "flag"}
    names, calls = {}, {}
    for part, inner, value in zip(case.family.parts, case.family.inners, values):
        if part[0] == "name":
            names[part[1]] = value
        else:
            calls[(part[1], tuple([values[number] for number in inner]))] = value
    return (flags, names, calls)
