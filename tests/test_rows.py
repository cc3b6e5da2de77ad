import itertools
import unittest

from plain import A, B, ONE, ZERO
from smallword.errors import NoStep
from smallword.rows import lit, openings, opposite, resolved, row_holds, row_of

P, Q, R = ("flag", "p"), ("flag", "q"), ("flag", "r")
LIKE, MOST = ("like", A, B), ("most", ((A, ONE),), ZERO)
ALL = [({"p": p, "q": q, "r": r}, {}, {}) for p, q, r in itertools.product((True, False), repeat=3)]


def negated(wish, times):
    for turn in range(times):
        wish = ("not", wish)
    return wish


class Literals(unittest.TestCase):
    def test_lit(self):
        for thing in (P, LIKE, MOST, ("both", (("not", P),)), ("either", ())):
            for truth in (True, False):
                for times in range(6):
                    told = lit(negated(thing, times), truth)
                    self.assertEqual(told, (thing, truth == (times % 2 == 0)))
                    self.assertIs(type(told[1]), bool)

    def test_opposite(self):
        for thing in (P, MOST, ("both", (P, Q))):
            self.assertEqual(opposite((thing, True)), (thing, False))
            self.assertEqual(opposite((thing, False)), (thing, True))

    def test_row_of(self):
        self.assertEqual(row_of([]), ())
        literals = [(Q, True), (P, True), (P, False), (LIKE, False), (("both", ()), True)]
        row = ((("both", ()), True), (P, False), (P, True), (Q, True), (LIKE, False))
        for order in itertools.permutations(literals):
            self.assertEqual(row_of(list(order)), row)
            self.assertEqual(row_of(list(order) + list(order[::-1])), row)

    def test_list_handed_in_stays(self):
        literals = [(Q, True), (P, True), (Q, True)]
        row_of(literals)
        self.assertEqual(literals, [(Q, True), (P, True), (Q, True)])


class Openings(unittest.TestCase):
    def test_atoms_have_none(self):
        for atom in (P, LIKE, MOST):
            self.assertEqual(openings(atom), [])

    def test_of_none(self):
        self.assertEqual(openings(("both", ())), [((("both", ()), True),)])
        self.assertEqual(openings(("either", ())), [((("either", ()), False),)])

    def test_of_one(self):
        both, either = ("both", (P,)), ("either", (("not", P),))
        self.assertEqual(openings(both), [((both, False), (P, True)), ((both, True), (P, False))])
        self.assertEqual(openings(either), [((either, True), (P, True)), ((either, False), (P, False))])

    def test_of_several(self):
        both = ("both", (Q, ("not", P), ("not", ("not", LIKE))))
        self.assertEqual(openings(both), [
            ((both, False), (Q, True)), ((both, False), (P, False)), ((both, False), (LIKE, True)),
            ((both, True), (P, True), (Q, False), (LIKE, False))])
        either = ("either", (Q, ("not", P), both))
        self.assertEqual(openings(either), [
            ((either, True), (Q, False)), ((either, True), (P, True)), ((both, False), (either, True)),
            ((both, True), (either, False), (P, False), (Q, True))])

    def test_of_one_wish_twice(self):
        both = ("both", (P, P, ("not", P)))
        self.assertEqual(openings(both), [
            ((both, False), (P, True)), ((both, False), (P, True)), ((both, False), (P, False)),
            ((both, True), (P, False), (P, True))])

    def test_they_hold_in_every_world(self):
        for inner in ((), (P,), (P, Q), (P, ("not", Q), ("either", (R, P))), (P, ("not", P))):
            for thing in (("both", inner), ("either", inner)):
                for world in ALL:
                    for row in openings(thing):
                        self.assertIs(row_holds(row, world), True)

    def test_told_list_is_the_askers_own(self):
        both = ("both", (P, Q))
        openings(both).clear()
        self.assertIs(type(openings(both)), list)
        self.assertEqual(len(openings(both)), 3)


class Resolved(unittest.TestCase):
    def test_rows(self):
        self.assertEqual(resolved(((P, True),), ((P, False),), P), ())
        self.assertEqual(resolved(((P, True), (Q, True)), ((P, False), (R, False)), P), ((Q, True), (R, False)))
        self.assertEqual(resolved(((P, True), (Q, True)), ((P, False), (Q, True)), P), ((Q, True),))
        self.assertEqual(resolved(((P, False), (Q, True)), ((P, True), (Q, False)), Q), ((P, False), (P, True)))

    def test_a_thing_both_ways_in_one_row(self):
        both_ways = ((P, False), (P, True))
        self.assertEqual(resolved(both_ways, ((P, False), (Q, True)), P), ((P, False), (Q, True)))
        self.assertEqual(resolved(((P, True), (Q, True)), both_ways, P), ((P, True), (Q, True)))
        self.assertEqual(resolved(both_ways, both_ways, P), both_ways)

    def test_refused_where_it_stands_not_as_told(self):
        cases = [
            (((P, False),), ((P, True),), P), ((), ((P, False),), P), (((P, True),), (), P), ((), (), P),
            (((P, True),), ((P, True),), P), (((P, False),), ((P, False),), P), (((P, True),), ((P, False),), Q),
            (((P, True), (Q, False)), ((P, False), (Q, True)), Q), (((P, True),), ((Q, False),), P),
            (((P, True),), ((P, False),), ("not", P)), (((P, True),), ((P, False),), ("both", (P,))),
        ]
        for row, other, thing in cases:
            with self.subTest(row=row, other=other, thing=thing):
                with self.assertRaises(NoStep):
                    resolved(row, other, thing)

    def test_it_holds_where_both_do(self):
        literals = [(thing, truth) for thing in (P, Q, R) for truth in (True, False)]
        rows = [row_of(list(some)) for many in range(4) for some in itertools.combinations(literals, many)]
        for row, other in itertools.product(rows, rows):
            if (P, True) in row and (P, False) in other:
                told = resolved(row, other, P)
                self.assertEqual(told, row_of(list(told)))
                for world in ALL:
                    if row_holds(row, world) and row_holds(other, world):
                        self.assertIs(row_holds(told, world), True)


class Holding(unittest.TestCase):
    def test_rows_in_worlds(self):
        world = ({"p": True}, {"a": ONE}, {})
        self.assertIs(row_holds(((P, True),), world), True)
        self.assertIs(row_holds(((P, False),), world), False)
        self.assertIs(row_holds(((Q, False),), world), True)
        self.assertIs(row_holds(((P, False), (Q, True)), world), False)
        self.assertIs(row_holds(((P, False), (Q, True), (LIKE, False)), world), True)
        self.assertIs(row_holds(((MOST, True), (LIKE, True)), world), False)
        self.assertIs(row_holds(((P, False), (P, True)), world), True)

    def test_the_row_of_none_never_holds(self):
        for world in ALL + [({}, {}, {})]:
            self.assertIs(row_holds((), world), False)


if __name__ == "__main__":
    unittest.main()
