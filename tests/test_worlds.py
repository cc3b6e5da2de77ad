import copy
import unittest

from plain import A, B, C, HALF, NO_TUPLES, ONE, ZERO, call
from smallword.worlds import holds, is_world, keeps, sum_at, value_of

P, Q = ("flag", "p"), ("flag", "q")
NONE = ({}, {}, {})
WORLD = (
    {"p": True, "q": False, "a": True},
    {"a": (1, 1), "b": (1, 2), "d": (1, 1), "f": (9, 1)},
    {("f", (ONE,)): (1, 2), ("f", (HALF,)): (-3, 1), ("f", (ONE, HALF)): (7, 1), ("g", (ONE, HALF, ZERO)): (2, 3),
     ("f", (ZERO,)): (5, 1)},
)


class Values(unittest.TestCase):
    def test_names_and_calls(self):
        cases = [
            (A, ONE), (B, HALF), (C, ZERO), (("name", "p"), ZERO), (("name", "g"), ZERO),
            (call("f", A), HALF), (call("f", B), (-3, 1)), (call("f", A, B), (7, 1)), (call("f", B, A), ZERO),
            (call("g", A, B, C), (2, 3)), (call("g", A), ZERO), (call("h", A), ZERO), (call("f", C), (5, 1)),
            (call("f", call("f", A)), (-3, 1)), (call("f", call("f", call("f", A))), ZERO),
            (call("f", call("h", A, A)), (5, 1)), (call("g", A, call("f", A), call("h", B)), (2, 3)),
        ]
        for term, value in cases:
            with self.subTest(term):
                self.assertEqual(value_of(term, WORLD), value)
                self.assertEqual(value_of(term, NONE), ZERO)

    def test_alike_terms_have_alike_calls(self):
        d, fa = ("name", "d"), call("f", A)
        self.assertEqual(value_of(call("f", A), WORLD), value_of(call("f", d), WORLD))
        self.assertEqual(value_of(call("f", A, B), WORLD), value_of(call("f", d, fa), WORLD))
        self.assertEqual(value_of(call("g", A, B, C), WORLD), value_of(call("g", d, fa, call("h", A)), WORLD))
        self.assertEqual(value_of(call("f", call("f", A)), WORLD), value_of(call("f", call("f", d)), WORLD))

    def test_sums(self):
        self.assertEqual(sum_at((), WORLD), ZERO)
        self.assertEqual(sum_at(((C, (5, 1)),), WORLD), ZERO)
        self.assertEqual(sum_at(((A, (1, 3)), (B, (1, 3))), WORLD), HALF)
        self.assertEqual(sum_at(((call("f", A), (2, 1)), (A, (-1, 1))), WORLD), ZERO)
        self.assertEqual(sum_at(((call("f", B), (2, 3)), (A, HALF), (C, (8, 1))), WORLD), (-3, 2))

    def test_great_numbers(self):
        great = 10 ** 60 - 1
        world = ({}, {"a": (great, 7), "b": (1, great)}, {})
        self.assertEqual(sum_at(((A, (7, great)), (B, (great, 1))), world), (2, 1))


class Holding(unittest.TestCase):
    def test_flags(self):
        self.assertIs(holds(P, WORLD), True)
        self.assertIs(holds(Q, WORLD), False)
        self.assertIs(holds(("flag", "r"), WORLD), False)
        self.assertIs(holds(("flag", "b"), WORLD), False)
        self.assertIs(holds(P, NONE), False)

    def test_most_just_at_its_bound(self):
        pairs = ((A, ONE), (B, ONE))
        self.assertIs(holds(("most", pairs, (3, 2)), WORLD), True)
        self.assertIs(holds(("most", pairs, (3 * 10 ** 40 - 1, 2 * 10 ** 40)), WORLD), False)
        self.assertIs(holds(("most", pairs, (3 * 10 ** 40 + 1, 2 * 10 ** 40)), WORLD), True)
        self.assertIs(holds(("most", (), ZERO), WORLD), True)
        self.assertIs(holds(("most", (), (-1, 100)), WORLD), False)
        self.assertIs(holds(("most", (), (1, 100)), NONE), True)
        self.assertIs(holds(("most", ((call("f", B), ONE),), (-3, 1)), WORLD), True)
        self.assertIs(holds(("most", ((call("f", B), ONE),), (-7, 2)), WORLD), False)
        # As tuples these stand the other way about than by their worth.
        self.assertIs(holds(("most", ((A, ONE),), (3, 2)), WORLD), True)
        self.assertIs(holds(("most", ((("name", "a"), (2, 1)),), (3, 2)), WORLD), False)

    def test_like(self):
        self.assertIs(holds(("like", A, ("name", "d")), WORLD), True)
        self.assertIs(holds(("like", A, B), WORLD), False)
        self.assertIs(holds(("like", B, call("f", A)), WORLD), True)
        self.assertIs(holds(("like", C, call("h", A)), WORLD), True)
        self.assertIs(holds(("like", A, A), NONE), True)

    def test_not_both_either(self):
        self.assertIs(holds(("not", P), WORLD), False)
        self.assertIs(holds(("not", Q), WORLD), True)
        self.assertIs(holds(("not", ("not", P)), WORLD), True)
        self.assertIs(holds(("both", ()), WORLD), True)
        self.assertIs(holds(("either", ()), WORLD), False)
        for one in (P, Q):
            for other in (P, Q):
                self.assertIs(holds(("both", (one, other)), WORLD), one == P and other == P)
                self.assertIs(holds(("either", (one, other)), WORLD), one == P or other == P)
        deep = ("both", (("not", ("either", (Q, ("both", (P, Q))))), ("either", (Q, P))))
        self.assertIs(holds(deep, WORLD), True)
        self.assertIs(holds(deep, NONE), False)

    def test_keeps(self):
        self.assertIs(keeps([], NONE), True)
        self.assertIs(keeps([P], WORLD), True)
        self.assertIs(keeps([P, ("not", Q)], WORLD), True)
        self.assertIs(keeps([P, Q], WORLD), False)
        self.assertIs(keeps([Q, P], WORLD), False)

    def test_nothing_handed_in_is_changed(self):
        world, wishes = copy.deepcopy(WORLD), [P, ("like", A, call("h", A)), ("flag", "r"), ("most", ((C, ONE),), ZERO)]
        kept = list(wishes)
        keeps(wishes, world)
        sum_at(((call("k", C), ONE),), world)
        self.assertEqual(world, WORLD)
        self.assertEqual(wishes, kept)


class Looked(unittest.TestCase):
    def test_worlds(self):
        calls = {("f", (ONE,)): ZERO, ("f", (ONE, ZERO)): HALF, ("f", (ONE, ONE, HALF)): ONE}
        for thing in (NONE, WORLD, ({"p": False}, {}, {}), ({}, {"p": ZERO}, {}), ({}, {}, calls)):
            self.assertIs(is_world(thing), True, thing)

    def test_wrong_flags(self):
        for key in ("", "P", "abcdefghi", 1, True, None, ("p",), ("flag", "p")):
            self.assertIs(is_world(({"q": True, key: True}, {}, {})), False, repr(key))
        for value in (0, 1, None, "True", ONE, [True], ()):
            self.assertIs(is_world(({"q": True, "p": value}, {}, {})), False, repr(value))

    def test_wrong_values(self):
        for key in ("", "A", "abcdefghi", 1, None, A, ("a",)):
            self.assertIs(is_world(({}, {"b": ONE, key: ONE}, {})), False, repr(key))
        for value in (0, 1, True, None, "1", [1, 1], (2, 2), (1, 0), (1, -1), (True, 1), (1, True), (1,), (1, 1, 1), ()):
            self.assertIs(is_world(({}, {"b": ONE, "a": value}, {})), False, repr(value))
            self.assertIs(is_world(({}, {}, {("f", (ONE,)): ONE, ("g", (ONE,)): value})), False, repr(value))

    def test_wrong_calls(self):
        keys = [
            "f", ("f",), ("f", ()), ("f", ONE), ("f", (ONE, ONE, ONE, ONE)), ("f", ((2, 2),)), ("f", ((1, 0),)),
            ("f", (ONE, (2, 2))), ("f", (ONE, ONE, A)), ("f", ((2, 2), ONE)),
            ("f", (1,)), ("f", ((True, 1),)), ("f", ((1, True),)), ("f", ("1",)), ("f", (A,)), ("F", (ONE,)),
            ("", (ONE,)), ("abcdefghi", (ONE,)), (1, (ONE,)), ("f", (ONE,), ONE), ((ONE,), "f"), ("f", None), ("f", "ab"),
            ("call", "f", (ONE,)), None, 1, (),
        ]
        for key in keys:
            self.assertIs(is_world(({}, {}, {("f", (ZERO,)): ONE, key: ONE})), False, repr(key))

    def test_wrong_outside(self):
        others = [
            (), ({},), ({}, {}), ({}, {}, {}, {}), [{}, {}, {}], ([], {}, {}), ({}, [], {}), ({}, {}, []), ({}, {}, ()),
            ({}, {}, None), (None, {}, {}), ({}, 0, {}), ("", "", ""), (["p"], {}, {}), ({}, [("a", ONE)], {}),
            {0: {}, 1: {}, 2: {}}, ({"p": True}, {"a": ONE}), ({"a": ONE}, {"p": True}, {}),
        ]
        for thing in others + NO_TUPLES:
            self.assertIs(is_world(thing), False, repr(thing))


if __name__ == "__main__":
    unittest.main()
