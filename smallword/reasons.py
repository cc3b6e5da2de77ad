"""Why terms are the same by likes: the least places of likes, and steps."""

from smallword.classes import bonds_of, family_of, joined, number_in


class Telling:
    """Steps, as they are written, that tell by given likes why parts of a family are the same."""

    def __init__(self, family, bonds, given):
        self.family = family
        self.bonds = bonds
        # The pairs of numbers of the given likes: what these say need not be told.
        self.given = given
        self.steps = []
        # By pairs of numbers the places of the steps that tell them.
        self.tellers = {}


def reason(likes, one, other):
    """The places, rising, of likes without any of which two terms would not be the same; None where they are not."""
    return reason_within(family_of(likes, [one, other]), likes, one, other)


def reason_within(family, likes, one, other):
    """A reason where the family of all these terms is at hand."""
    bonds = bonds_of(family, likes)
    first, last = number_in(family, one), number_in(family, other)
    roots, kept = joined(family, bonds)
    if roots[first] != roots[last]:
        return None
    places = places_between(family, kept, first, last)
    for place in list(places):
        fewer = [left for left in places if left != place]
        roots, kept = joined(family, [bonds[left] for left in fewer])
        if roots[first] == roots[last]:
            places = fewer
    return places


def way_between(bonds, one, other):
    """The bonds that lead from a part to another one that they join with it, each turned that way."""
    beside = {}
    for left, right, place in bonds:
        beside.setdefault(left, []).append((left, right, place))
        beside.setdefault(right, []).append((right, left, place))
    came = {one: None}
    waiting = [one]
    while waiting:
        part = waiting.pop()
        for bond in beside.get(part, []):
            if bond[1] not in came:
                came[bond[1]] = bond
                waiting.append(bond[1])
    way = []
    while came[other] is not None:
        way.append(came[other])
        other = came[other][0]
    return way[::-1]


def places_between(family, bonds, one, other):
    """The places, rising, of all likes that bonds need so as to join two parts."""
    waiting = [(one, other)]
    seen = {(one, other): True}
    places = []
    while waiting:
        first, last = waiting.pop()
        for left, right, place in way_between(bonds, first, last):
            if place is not None:
                places.append(place)
                continue
            for pair in zip(family.inners[left], family.inners[right]):
                if pair not in seen:
                    seen[pair] = True
                    waiting.append(pair)
    return sorted(set(places))


def why(likes, one, other):
    """Steps whose last row tells by a reason that two terms are the same; None where they are not."""
    family = family_of(likes, [one, other])
    places = reason_within(family, likes, one, other)
    if places is None:
        return None
    return steps_by(family, [likes[place] for place in places], one, other)


def steps_by(family, likes, one, other):
    """Steps whose last row tells that two terms are the same by all these likes, which are a reason."""
    bonds = bonds_of(family, likes)
    given = {(left, right): True for left, right, place in bonds}
    telling = Telling(family, joined(family, bonds)[1], given)
    tell(telling, number_in(family, one), number_in(family, other))
    return telling.steps


def tell(telling, one, other):
    """The place of the step, laid where it lacks, whose row tells by given likes alone that two parts are the same."""
    if (one, other) not in telling.tellers:
        step, pairs = first_step(telling, one, other)
        place = lay(telling, step)
        for pair in pairs:
            if pair not in telling.given:
                # What joined this pair is ahead of what joined the other one, so this comes to an end.
                place = lay(telling, ("resolve", tell(telling, pair[0], pair[1]), place, like_of(telling, pair)))
        telling.tellers[(one, other)] = place
    return telling.tellers[(one, other)]


def lay(telling, step):
    """The place of a step that is laid behind the others."""
    telling.steps.append(step)
    return len(telling.steps) - 1


def like_of(telling, pair):
    parts = telling.family.parts
    return ("like", parts[pair[0]], parts[pair[1]])


def first_step(telling, one, other):
    """The step that tells that two parts are the same by pairs of others, and these pairs, each once."""
    parts = telling.family.parts
    if one == other:
        return (("self", parts[one]), [])
    way = [one] + [bond[1] for bond in way_between(telling.bonds, one, other)]
    if (one, other) in telling.given:
        # No shorter step has a like as what is told and as what it is told by.
        way = [one, one, other]
    if len(way) > 2:
        return (("chain", tuple([parts[part] for part in way])), list(zip(way, way[1:])))
    if (other, one) in telling.given:
        return (("turn", parts[other], parts[one]), [])
    inner = {pair: True for pair in zip(telling.family.inners[one], telling.family.inners[other])}
    return (("calls", parts[one], parts[other]), list(inner))
