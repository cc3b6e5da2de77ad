"""What several tests share: plain things, and ways to spoil them; papers by chance."""

import itertools

from smallword.checker import row_by
from smallword.rows import lit

A, B, C = ("name", "a"), ("name", "b"), ("name", "c")
ONE, HALF, ZERO = (1, 1), (1, 2), (0, 1)

NO_TUPLES = [
    0, 1, -3, 10 ** 70, True, False, None, "", "a", "name", "flag", [], ["name", "a"], ["flag", "p"], [ONE],
    {}, {"name": "a"}, {"flag": "p"}, [[], [], []],
]


def call(function, *terms):
    return ("call", function, terms)


def spoilt(thing):
    """Things that differ from a plain thing by one part, at the top or deep within."""
    if isinstance(thing, tuple):
        yield list(thing)
        yield thing + (None,)
        yield thing + thing[-1:] + thing[-1:] + thing[-1:]
        yield (thing,)
        for at, part in enumerate(thing):
            for other in spoilt(part):
                yield thing[:at] + (other,) + thing[at + 1:]
    elif isinstance(thing, str):
        yield from ("", thing.upper(), thing + "1", thing + "abcdefgh", thing + " ", 5, None, (thing,), [thing])
    else:
        yield from (True, False, None, str(thing), (thing,), [thing])


class PaperMaker:
    """Wishes that no world keeps, and a paper of them with many a needless step, by a source of chance."""

    def __init__(self, chance, atoms):
        self.chance = chance
        self.atoms = atoms
        self.wishes = []
        self.paper = []
        self.rows = []
        for truths in itertools.product((True, False), repeat=len(atoms)):
            if not any([self.falls(wish, dict(zip(atoms, truths))) for wish in self.wishes]):
                self.wishes.append(self.wish_against(list(zip(atoms, truths))))
        chance.shuffle(self.wishes)

    def wish_against(self, literals):
        """An either that falls by some of these literals, which all hold at once."""
        some = self.chance.sample(literals, self.chance.randint((len(literals) + 1) // 2, len(literals)))
        return ("either", tuple([("not", atom) if truth else atom for atom, truth in some]))

    def falls(self, wish, truths):
        literals = [lit(inner, True) for inner in wish[1]]
        return all([truths.get(atom) == (not truth) for atom, truth in literals])

    def lay(self, step):
        """The place of a step that is laid behind the paper."""
        self.rows.append(row_by(self.wishes, self.rows, step))
        self.paper.append(step)
        return len(self.paper) - 1

    def led(self, truths):
        """The place of a row that falls by these truths."""
        fallen = [place for place, wish in enumerate(self.wishes) if self.falls(wish, truths)]
        if fallen:
            place = self.chance.choice(fallen)
            wish = self.wishes[place]
            last = self.lay(("open", wish, len(wish[1])))
            return self.lay(("resolve", self.lay(("wish", place)), last, wish))
        atom = self.chance.choice([atom for atom in self.atoms if atom not in truths])
        one = self.led({**truths, atom: False})
        other = self.led({**truths, atom: True})
        one = self.widened(one, (atom, True))
        if (atom, True) not in self.rows[one]:
            return one
        other = self.widened(other, (atom, False))
        if (atom, False) not in self.rows[other]:
            return other
        return self.lay(("resolve", one, other, atom))

    def widened(self, place, literal):
        """The place of a row that has a literal beside those of another row, or by chance that one's place."""
        row = self.rows[place]
        if literal in row or not row or self.chance.random() < 0.5:
            return place
        first = self.chance.choice(row)
        either = ("either", tuple([atom if truth else ("not", atom) for atom, truth in (first, literal)]))
        steps = [place, self.lay(("open", either, 0))]
        taken = self.lay(("resolve",) + tuple(steps if first[1] else steps[::-1]) + (first[0],))
        return self.lay(("resolve", taken, self.lay(("open", either, 2)), either))


def some_paper(chance, atoms):
    """A tuple of wishes and a paper that is let by, over these atoms taken as if they had nothing to do together."""
    maker = PaperMaker(chance, atoms)
    for each in range(chance.randint(0, 2)):
        maker.led({})
    place = maker.led({})
    while place != len(maker.paper) - 1:
        # What led to () may lie ahead of steps that were laid for nothing.
        place = maker.led({})
    return maker.wishes, maker.paper


def name(letters):
    return ("name", letters)


def within_calls(term, many, function="f"):
    """A term within so many calls of one function."""
    for each in range(many):
        term = call(function, term)
    return term


def some_term(chance, names, depth):
    """A term by chance, calls of f and g at most so deep."""
    if depth == 0 or chance.random() < 0.4:
        return name(chance.choice(names))
    return call(chance.choice("fg"), *[some_term(chance, names, depth - 1) for each in range(chance.randint(1, 2))])


def parts_plainly(terms):
    """All parts of terms, by the words of the document."""
    found = []
    for term in terms:
        found.append(term)
        if term[0] == "call":
            found += parts_plainly(term[2])
    return sorted(set(found))


def same_plainly(likes, terms):
    """The pairs that are the same by likes among the parts of these and of terms, by the words of the document."""
    parts = parts_plainly([term for pair in likes for term in pair] + list(terms))
    same = {(part, part) for part in parts} | set(likes) | {(other, one) for one, other in likes}
    while True:
        fresh = {(one, last) for one, middle in same for beside, last in same if middle == beside}
        for one, other in itertools.product(parts, repeat=2):
            if one[0] == other[0] == "call" and one[1] == other[1] and len(one[2]) == len(other[2]):
                if all(pair in same for pair in zip(one[2], other[2])):
                    fresh.add((one, other))
        if fresh <= same:
            return same
        same |= fresh
