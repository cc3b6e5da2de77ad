import unittest

from plain import A, B, C, HALF, NO_TUPLES, ONE, ZERO, call, spoilt
from smallword.steps import is_step

P = ("flag", "p")
FA = call("f", A, B)
MOST = ("most", ((A, HALF), (B, (-1, 1))), (-3, 4))
DEEP = ("both", (("not", ("either", (P, ("like", FA, A)))), MOST))
PART = (MOST, True, (2, 3))

RIGHT = [
    ("wish", 0), ("wish", 7), ("wish", 10 ** 199), ("open", DEEP, 0), ("open", P, 3), ("open", ("either", ()), 10 ** 199),
    ("resolve", 0, 0, P), ("resolve", 4, 10 ** 199, DEEP), ("resolve", 1, 0, MOST), ("resolve", 1, 0, ("like", A, A)),
    ("sum", (PART,)), ("sum", (PART, (("most", (), ZERO), False, ONE))), ("sum", (PART, PART, PART)),
    ("self", A), ("self", FA), ("turn", A, B), ("turn", A, A), ("chain", (A, B, C)), ("chain", (A, A, A)),
    ("chain", (A, FA, call("g", FA), B, C)), ("calls", FA, FA), ("calls", A, FA), ("level", A, FA), ("meet", FA, B),
]


class Right(unittest.TestCase):
    def test_each_kind(self):
        for step in RIGHT:
            with self.subTest(step):
                self.assertIs(is_step(step), True)
        self.assertEqual(len({step[0] for step in RIGHT}), 10)


class Bent(unittest.TestCase):
    def no_step(self, *things):
        for thing in things:
            with self.subTest(thing):
                self.assertIs(is_step(thing), False)

    def test_what_is_no_tuple(self):
        self.no_step(*NO_TUPLES)
        self.no_step("wish", ["wish", 0], {"wish": 0}, {0: "wish", 1: 0}, [("wish", 0)])

    def test_other_tuples(self):
        self.no_step((), ("wish",), ("sum",), ("wish", 0, 0), ("self", A, A), ("chain", A, B, C), ("turn", (A, B)))
        self.no_step(P, DEEP, A, ONE, ("step", 0), ("", 0), (None, 0), ((), 0), (["wish"], 0), ({}, A, B), (0, 0, 0, P))
        self.no_step(("Wish", 0), ("wish ", 0), ("flag", A), ("not", P), ("like", A, B), ("most", A, B), (("wish", 0),))
        self.no_step(("open", P, 0, 0), ("resolve", 0, 0), ("resolve", 0, 0, P, P), ("open", 0, 0, P))

    def test_each_kind_with_a_thing_more_or_fewer_or_as_a_list(self):
        for step in RIGHT:
            self.no_step(list(step), step[:-1], step + (None,), step + (0,), step + (A,), (step,))

    def test_one_part_bent_at_the_top_or_deep_within(self):
        part = (MOST, False, (2, 3))
        cases = [
            ("wish", 2), ("open", DEEP, 1), ("resolve", 0, 3, DEEP), ("sum", (part,)), ("self", FA), ("turn", FA, B),
            ("chain", (A, FA, B)), ("calls", FA, FA), ("level", A, FA), ("meet", FA, A),
        ]
        # Some of what is put in may well stand there: wishes, parts or terms more than there were, a truth turned.
        either = DEEP[1][0][1]
        longer = ("both", DEEP[1] + (MOST,) * 3)
        wider = ("both", (("not", ("either", either[1] + either[1][-1:] * 3)), MOST))
        steps = [("open", thing, 1) for thing in (longer, wider)]
        steps += [("resolve", 0, 3, thing) for thing in (longer, wider)]
        steps += [("sum", (part,) * 4), ("sum", (part,)), ("sum", ((MOST, True, (2, 3)),)), ("chain", (A, FA, B, B, B, B))]
        for case in cases:
            for bent in spoilt(case):
                with self.subTest(bent):
                    self.assertIs(is_step(bent), repr(bent) in [repr(step) for step in steps])

    def test_numbers(self):
        for number in (-1, -10 ** 60, True, False, None, "0", "", (0,), [0], (0, 1), {}):
            self.no_step(("wish", number), ("open", P, number), ("resolve", number, 0, P), ("resolve", 0, number, P))

    def test_things(self):
        for thing in (("not", P), ("not", ("not", P)), A, None, 0, "p", [], ["flag", "p"], ("both", [P]), ("both", P),
                      ("flag", "P"), ("most", ((A, (2, 4)),), ZERO), ("most", [], ZERO), ("like", A, P), (P, True)):
            self.no_step(("open", thing, 0), ("resolve", 0, 0, thing))
        self.assertTrue(is_step(("open", ("both", (("not", P),)), 0)))

    def test_terms(self):
        for term in (P, "a", None, 0, (), ["name", "a"], ("name", "A"), ("name", ""), call("f"), call("f", A, A, A, A),
                     ("call", "f", [A]), call("f", call("f", ("name", 1)))):
            self.no_step(("self", term), ("chain", (A, term, B)), ("chain", (A, B, term)), ("chain", (term, A, B)))
            for kind in ("turn", "calls", "level", "meet"):
                self.no_step((kind, term, A), (kind, A, term))

    def test_chains(self):
        self.no_step(("chain", ()), ("chain", (A,)), ("chain", (A, B)), ("chain", [A, B, C]), ("chain", A), ("chain", "abc"))

    def test_sums(self):
        self.no_step(("sum", ()), ("sum", []), ("sum", [PART]), ("sum", PART), ("sum", (list(PART),)), ("sum", None))
        self.no_step(("sum", (PART[:2],)), ("sum", (PART + (1,),)), ("sum", (PART, ())), ("sum", (PART, None)))
        for atom in (P, ("like", A, B), ("not", MOST), DEEP, ("both", (MOST,)), ("most", (), 0), ("most", ((A, ZERO),), ZERO)):
            self.no_step(("sum", ((atom, True, ONE),)), ("sum", (PART, (atom, False, ONE))))
        for truth in (1, 0, None, "True", "+", (), [], (True,)):
            self.no_step(("sum", ((MOST, truth, ONE),)), ("sum", (PART, (MOST, truth, ONE))))
        for weight in (ZERO, (-1, 1), (-1, 2), (2, 4), (1, 0), (1, -1), (1,), 1, [1, 1], (True, 1), (1, True), "1", None,
                       (1, 1, 1)):
            self.no_step(("sum", ((MOST, True, weight),)), ("sum", (PART, (MOST, False, weight))))


if __name__ == "__main__":
    unittest.main()
