import unittest

from plain import A, B, C, NO_TUPLES, call, spoilt
from smallword.terms import depth_of, is_fraction, is_name, is_term, within

DEEP = call("f", call("g", call("h", A, B), C), call("g", A))


class Names(unittest.TestCase):
    def test_names(self):
        for thing in ("a", "z", "abc", "not", "abcdefgh", "zzzzzzzz"):
            self.assertIs(is_name(thing), True, thing)

    def test_no_names(self):
        others = ["", "abcdefghi", "A", "aB", "Ab", "a1", "1", "a b", " a", "a ", "a_b", "a-b", "a\n", "\u00e9", "\u00df"]
        for thing in others + [0, 1, True, None, ["a"], ("a",), {"a": 1}, [], (), {}]:
            self.assertIs(is_name(thing), False, repr(thing))


class Fractions(unittest.TestCase):
    def test_fractions(self):
        for thing in ((0, 1), (1, 1), (-1, 2), (7, 3), (10 ** 60 - 1, 10 ** 59), (2 ** 190, 3 ** 120)):
            self.assertIs(is_fraction(thing), True, thing)

    def test_no_fractions(self):
        others = [
            (2, 4), (0, 2), (0, 3), (1, 0), (0, 0), (1, -2), (-1, -2), (0, -1), (3, 3), (2 ** 190, 2 ** 3),
            (1,), (1, 2, 1), (), [1, 2], (True, 2), (1, True), (True, True), (False, 1), ("1", 2), (1, "2"),
            (None, 1), (1, None), ((1, 1), 1), (1, (1, 1)), "1/2", 1, {1: 2},
        ]
        for thing in others + NO_TUPLES:
            self.assertIs(is_fraction(thing), False, repr(thing))


class Terms(unittest.TestCase):
    def test_terms(self):
        terms = [A, ("name", "call"), call("f", A), call("f", A, B), call("f", A, B, A), call("name", A), DEEP]
        for thing in terms:
            self.assertIs(is_term(thing), True, thing)

    def test_no_terms(self):
        others = [
            (), ("name",), ("call",), ("call", "f"), ("name", "a", "b"), ("name", "a", (A,)), ("call", "f", ()),
            ("call", "f", (A, A, A, A)), ("call", "f", (A,), A), ("call", "f", A), ("call", "f", [A]),
            ("call", "F", (A,)), ("call", "", (A,)), ("call", "f", ("a",)), ("call", "f", (A, ["name", "b"])),
            ("call", "f", (A, call("g"))), ("call", A, (A,)), ("flag", "a"), ("Name", "a"), (True, "a"), (None, "a"),
            (["name"], "a"), ({}, "a"), ("name", True), ("name", None), ("name", ["a"]), ("name", {}), ("call", "f", {}),
            ("call", "f", "a"), ("call", "f", None), ("call", "f", 1), (A,), ("name", "abcdefghi"), (1, 2), (1, 2, 3),
        ]
        for thing in others + NO_TUPLES:
            self.assertIs(is_term(thing), False, repr(thing))

    def test_spoilt_anywhere(self):
        for term in (A, call("f", A, B), DEEP):
            for thing in spoilt(term):
                self.assertIs(is_term(thing), False, repr(thing))


class Within(unittest.TestCase):
    def test_order(self):
        self.assertEqual(within(A), [A])
        self.assertEqual(within(call("f", B, A)), [B, A, call("f", B, A)])
        self.assertEqual(
            within(DEEP),
            [A, B, call("h", A, B), C, call("g", call("h", A, B), C), call("g", A), DEEP])

    def test_each_once(self):
        twice = call("f", call("g", A), A, call("g", A))
        self.assertEqual(within(twice), [A, call("g", A), twice])
        self.assertEqual(within(call("a", A)), [A, call("a", A)])

    def test_alike_names_of_other_sorts_are_kept_apart(self):
        term = call("f", call("f", ("name", "f")), call("f", ("name", "f"), ("name", "f")))
        self.assertEqual(
            within(term),
            [("name", "f"), call("f", ("name", "f")), call("f", ("name", "f"), ("name", "f")), term])

    def test_told_list_is_the_askers_own(self):
        told = within(DEEP)
        told.clear()
        self.assertEqual(len(within(DEEP)), 7)
        self.assertIs(type(within(A)), list)

    def test_many_and_deep(self):
        term = A
        for turn in range(25):
            term = call("f", term)
        self.assertEqual(len(within(term)), 26)
        self.assertEqual(depth_of(term), 25)
        wide = A
        for turn in range(6):
            wide = call("f", wide, wide, wide)
        self.assertEqual(len(within(wide)), 7)


class Depth(unittest.TestCase):
    def test_depths(self):
        self.assertEqual(depth_of(A), 0)
        self.assertEqual(depth_of(call("f", A)), 1)
        self.assertEqual(depth_of(call("f", A, B, C)), 1)
        self.assertEqual(depth_of(DEEP), 3)
        self.assertEqual(depth_of(call("f", A, call("f", call("f", A)), B)), 3)


if __name__ == "__main__":
    unittest.main()
