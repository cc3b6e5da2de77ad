import copy
import unittest

from plain import A, B, C, HALF, NO_TUPLES, ONE, ZERO, call, spoilt
from smallword.wishes import (
    above, at_least, at_most, atoms_of, below, equal, is_wish, parts_of, size_of, terms_in)

P, Q = ("flag", "p"), ("flag", "q")
FA, GAB = call("f", A), call("g", A, B)
MOST = ("most", ((FA, (-1, 3)), (A, ONE)), HALF)
LIKE = ("like", GAB, C)
DEEP = ("both", (("not", ("either", (P, MOST))), LIKE, ("both", ()), ("not", ("not", Q))))


class Looked(unittest.TestCase):
    def test_wishes(self):
        wishes = [
            P, ("flag", "not"), MOST, ("most", (), ZERO), LIKE, ("like", A, A), ("not", P), ("not", ("not", P)),
            ("both", ()), ("either", ()), ("both", (P,)), ("either", (P, P)), DEEP, ("both", (DEEP, MOST)),
        ]
        for thing in wishes:
            self.assertIs(is_wish(thing), True, thing)

    def test_no_wishes(self):
        others = [
            (), ("flag",), ("flag", "P"), ("flag", ""), ("flag", "abcdefghi"), ("flag", A), ("flag", "p", "q"), A, FA,
            ("not",), ("not", "p"), ("not", P, P), ("not", (P,)), ("not", ()), ("both",), ("both", P), ("both", P, Q),
            ("both", [P]), ("both", (P, "q")), ("both", (["flag", "p"],)), ("both", "pq"), ("both", {}), ("both", None),
            ("either", P), ("either", [P]), ("either", (P, A)), ("either", ((P,),)), ("either", (P,), (P,)),
            ("all", (P,)), ("any", (P,)), ("least", (), ZERO), ("like", A), ("like", A, B, C), ("like", (A, B)),
            ("like", A, "b"), ("like", A, P), ("like", ["name", "a"], B), ("most", ()), ("most", ZERO), ("most", (), 0),
            ("most", [], ZERO), ("most", (), [0, 1]), ("most", (), (2, 2)), ("most", (), (True, 1)),
            ("most", (), (0, True)), ("most", (), ZERO, ZERO), ("most", ZERO, ()), ("most", ((A, ZERO),), ZERO),
            ("most", ((B, ONE), (A, ONE)), ZERO), ("most", ((A, ONE), (A, ONE)), ZERO), ("most", ((A, (2, 4)),), ZERO),
            ("most", ((A, (True, 1)),), ZERO), ("most", ([A, ONE],), ZERO), ("most", (A, ONE), ZERO), ("most", None, ZERO),
            (True, P), (1, (P,)), (["not"], P), ({}, ()), (None, "p"), ("Flag", "p"), (P, P), (P, P, P),
        ]
        for thing in others + NO_TUPLES:
            self.assertIs(is_wish(thing), False, repr(thing))

    def test_wrong_deep_within(self):
        for thing in (("flag", "P"), ["flag", "p"], "p", ("most", ((A, ZERO),), ZERO), True, None, 1, [], {}):
            for wish in (("not", thing), ("both", (P, thing)), ("either", (("not", ("both", (thing,))), P))):
                self.assertIs(is_wish(wish), False, repr(wish))

    def test_spoilt_anywhere(self):
        for wish in (P, MOST, LIKE, ("not", P)):
            for thing in spoilt(wish):
                self.assertIs(is_wish(thing), False, repr(thing))
        for thing in spoilt(MOST):
            self.assertIs(is_wish(("both", (P, ("not", thing)))), False, repr(thing))


class Made(unittest.TestCase):
    pairs = [(B, HALF), (A, ONE), (B, HALF), (C, ZERO), (A, (2, 1))]
    whole = ((A, (3, 1)), (B, ONE))
    turned = ((A, (-3, 1)), (B, (-1, 1)))

    def test_over_pairs(self):
        kept = copy.deepcopy(self.pairs)
        bound = (5, 2)
        most = ("most", self.whole, bound)
        least = ("most", self.turned, (-5, 2))
        self.assertEqual(at_most(self.pairs, bound), most)
        self.assertEqual(at_least(self.pairs, bound), least)
        self.assertEqual(below(self.pairs, bound), ("not", least))
        self.assertEqual(above(self.pairs, bound), ("not", most))
        self.assertEqual(equal(self.pairs, bound), ("both", (most, least)))
        self.assertEqual(self.pairs, kept)

    def test_over_no_pairs_or_nothing_left(self):
        for pairs in ([], [(A, ZERO)], [(A, ONE), (A, (-1, 1))]):
            most, least = ("most", (), (2, 3)), ("most", (), (-2, 3))
            self.assertEqual(at_most(pairs, (2, 3)), most)
            self.assertEqual(at_least(pairs, (2, 3)), least)
            self.assertEqual(below(pairs, (2, 3)), ("not", least))
            self.assertEqual(above(pairs, (2, 3)), ("not", most))
            self.assertEqual(equal(pairs, (2, 3)), ("both", (most, least)))
        self.assertEqual(equal([], ZERO), ("both", (("most", (), ZERO), ("most", (), ZERO))))

    def test_what_is_made_is_a_wish(self):
        for make in (at_most, at_least, below, above, equal):
            self.assertIs(is_wish(make(self.pairs, (-1, 7))), True)


class Within(unittest.TestCase):
    def test_parts(self):
        self.assertEqual(parts_of(P), [P])
        self.assertEqual(parts_of(MOST), [MOST])
        self.assertEqual(parts_of(("both", ())), [("both", ())])
        self.assertEqual(parts_of(("not", ("not", P))), [P, ("not", P), ("not", ("not", P))])
        either = ("either", (P, MOST))
        self.assertEqual(
            parts_of(DEEP),
            [P, MOST, either, ("not", either), LIKE, ("both", ()), Q, ("not", Q), ("not", ("not", Q)), DEEP])

    def test_parts_each_once_from_the_left(self):
        wish = ("both", (("not", Q), P, Q, ("not", P), ("not", Q), P))
        self.assertEqual(parts_of(wish), [Q, ("not", Q), P, ("not", P), wish])
        wish = ("either", (("both", (P, Q)), ("either", (P, Q)), ("both", (P, Q))))
        self.assertEqual(parts_of(wish), [P, Q, ("both", (P, Q)), ("either", (P, Q)), wish])

    def test_parts_that_differ_a_little_are_kept_apart(self):
        wishes = (
            ("flag", "a"), ("like", A, A), ("most", ((A, ONE),), ONE), ("most", ((A, (-1, 1)),), ONE),
            ("most", ((A, ONE),), (-1, 1)), ("most", (), ONE), ("both", ()), ("either", ()), ("both", (P,)),
            ("both", (P, P)), ("like", call("a", A), A), ("like", A, call("a", A)),
        )
        parts = parts_of(("both", wishes))
        for wish in wishes:
            self.assertEqual(parts.count(wish), 1)

    def test_terms(self):
        self.assertEqual(terms_in(P), [])
        self.assertEqual(terms_in(("both", ())), [])
        self.assertEqual(terms_in(("most", (), ONE)), [])
        self.assertEqual(terms_in(("like", B, A)), [B, A])
        self.assertEqual(terms_in(("like", A, A)), [A])
        self.assertEqual(terms_in(MOST), [A, FA])
        self.assertEqual(terms_in(LIKE), [A, B, GAB, C])
        self.assertEqual(terms_in(DEEP), [A, FA, B, GAB, C])
        self.assertEqual(terms_in(("either", (("like", C, GAB), ("not", MOST)))), [C, A, B, GAB, FA])

    def test_atoms(self):
        self.assertEqual(atoms_of([]), [])
        self.assertEqual(atoms_of([("both", ()), ("not", ("either", ()))]), [])
        self.assertEqual(atoms_of([Q, P]), [P, Q])
        self.assertEqual(atoms_of([DEEP, P, ("not", MOST), Q]), sorted([P, Q, MOST, LIKE]))
        self.assertEqual(atoms_of([("not", Q), ("both", (Q, LIKE))]), [Q, LIKE])

    def test_atoms_leave_the_list_as_it_was(self):
        wishes = [Q, P, DEEP]
        atoms_of(wishes)
        self.assertEqual(wishes, [Q, P, DEEP])

    def test_told_lists_are_the_askers_own(self):
        wishes = [P]
        for ask in (lambda: parts_of(DEEP), lambda: terms_in(DEEP), lambda: atoms_of([DEEP]), lambda: atoms_of(wishes)):
            told = ask()
            self.assertIs(type(told), list)
            kept = list(told)
            told.append(None)
            told.reverse()
            self.assertEqual(ask(), kept)
        self.assertEqual(wishes, [P])

    def test_sizes(self):
        for atom in (P, MOST, LIKE, ("most", (), ZERO)):
            self.assertEqual(size_of(atom), 1)
        self.assertEqual(size_of(("not", P)), 2)
        self.assertEqual(size_of(("both", ())), 1)
        self.assertEqual(size_of(("either", (P, P, P))), 4)
        self.assertEqual(size_of(DEEP), 10)

    def test_great_wishes(self):
        wish = P
        for turn in range(20):
            wish = ("not", wish)
        self.assertEqual(len(parts_of(wish)), 21)
        self.assertEqual(size_of(wish), 21)
        letters = "abcdefghijklmno"
        flags = tuple(("flag", x + y + z) for x in letters for y in letters for z in letters[:13])
        wide = ("either", flags)
        self.assertEqual(parts_of(wide), list(flags) + [wide])
        self.assertEqual(size_of(wide), len(flags) + 1)
        great = ("most", ((A, (1, 10 ** 5000 + 1)),), ONE)
        self.assertEqual(parts_of(("not", great)), [great, ("not", great)])


if __name__ == "__main__":
    unittest.main()
