import copy
import itertools
import random
import unittest

from plain import A, B, C, HALF, NO_TUPLES, ONE, ZERO, call, some_paper
from smallword.checker import lets_by, row_by, rows_by
from smallword.errors import BadStep, NoStep
from smallword.rows import row_holds, row_of
from smallword.worlds import keeps

P, Q, R = ("flag", "p"), ("flag", "q"), ("flag", "r")
FA, FB = call("f", A), call("f", B)
BOTH, EITHER = ("both", (P, ("not", Q))), ("either", (P, ("not", Q)))


def most(pairs, bound):
    return ("most", tuple(pairs), bound)


def like(one, other, truth=True):
    return (("like", one, other), truth)


class Given(unittest.TestCase):
    def gives(self, row, step, wishes=(), rows=()):
        wishes, rows = list(wishes), list(rows)
        before = copy.deepcopy((wishes, rows, step))
        told = row_by(wishes, rows, step)
        self.assertEqual(told, row)
        self.assertEqual(told, row_of(list(told)))
        self.assertEqual(repr((wishes, rows, step)), repr(before))

    def refuses(self, step, wishes=(), rows=()):
        wishes, rows = list(wishes), list(rows)
        before = copy.deepcopy((wishes, rows))
        with self.subTest(step):
            with self.assertRaises(NoStep):
                row_by(wishes, rows, step)
            self.assertEqual((wishes, rows), before)


class WishAndOpen(Given):
    def test_wish(self):
        wishes = [P, ("not", Q), ("not", ("not", BOTH)), ("not", EITHER), ("like", A, B)]
        rows = [((P, True),), ((Q, False),), ((BOTH, True),), ((EITHER, False),), (like(A, B),)]
        for place, row in enumerate(rows):
            self.gives(row, ("wish", place), wishes)
        for place in (5, 6, 10 ** 199):
            self.refuses(("wish", place), wishes)
        self.refuses(("wish", 0))
        self.refuses(("wish", 0), (), [((P, True),)])

    def test_open_of_both(self):
        self.gives(((BOTH, False), (P, True)), ("open", BOTH, 0))
        self.gives(((BOTH, False), (Q, False)), ("open", BOTH, 1))
        self.gives(((BOTH, True), (P, False), (Q, True)), ("open", BOTH, 2))
        for number in (3, 4, 10 ** 199):
            self.refuses(("open", BOTH, number))

    def test_open_of_either(self):
        self.gives(((EITHER, True), (P, False)), ("open", EITHER, 0))
        self.gives(((EITHER, True), (Q, True)), ("open", EITHER, 1))
        self.gives(((EITHER, False), (P, True), (Q, False)), ("open", EITHER, 2))
        for number in (3, 4, 10 ** 199):
            self.refuses(("open", EITHER, number))

    def test_open_of_none_and_of_atoms(self):
        for kind, truth in (("both", True), ("either", False)):
            self.gives((((kind, ()), truth),), ("open", (kind, ()), 0))
            self.refuses(("open", (kind, ()), 1))
        for atom in (P, ("like", A, B), most([], ZERO)):
            self.refuses(("open", atom, 0))
            self.refuses(("open", atom, 1))


class Resolve(Given):
    rows = [((P, True), (Q, True)), ((P, False), (R, True)), ((P, False), (P, True)), ((Q, False),), ()]

    def test_rows(self):
        self.gives(((Q, True), (R, True)), ("resolve", 0, 1, P), (), self.rows)
        self.gives(((P, True),), ("resolve", 0, 3, Q), (), self.rows)
        self.gives(((P, True), (Q, True)), ("resolve", 0, 2, P), (), self.rows)
        self.gives(((P, False), (R, True)), ("resolve", 2, 1, P), (), self.rows)

    def test_one_row_with_itself(self):
        self.gives(((P, False), (P, True)), ("resolve", 2, 2, P), (), self.rows)
        self.refuses(("resolve", 0, 0, P), (), self.rows)
        self.refuses(("resolve", 4, 4, P), (), self.rows)

    def test_numbers_beyond_the_rows(self):
        for beyond in (5, 6, 10 ** 199):
            self.refuses(("resolve", 0, beyond, P), (), self.rows)
            self.refuses(("resolve", beyond, 1, P), (), self.rows)
        self.refuses(("resolve", 0, 0, P))
        self.refuses(("resolve", 0, 1, P), self.rows)

    def test_a_thing_that_stands_not_as_it_must(self):
        for step in (("resolve", 1, 0, P), ("resolve", 0, 1, Q), ("resolve", 0, 1, R), ("resolve", 0, 3, P),
                     ("resolve", 3, 0, Q), ("resolve", 0, 4, P), ("resolve", 4, 1, P), ("resolve", 0, 1, BOTH)):
            self.refuses(step, (), self.rows)


class Sum(Given):
    low, high = most([(A, ONE)], ZERO), most([(A, (-1, 1))], (-1, 1))

    def test_one_part(self):
        for bound, truth, right in ((-1, True, True), (0, True, False), (1, True, False),
                                    (-1, False, False), (0, False, True), (1, False, True)):
            atom = most([], (bound, 3))
            atom = most([], ZERO) if bound == 0 else atom
            for weight in (ONE, HALF, (10 ** 199, 7)):
                if right:
                    self.gives(((atom, not truth),), ("sum", ((atom, truth, weight),)))
                else:
                    self.refuses(("sum", ((atom, truth, weight),)))

    def test_several_parts(self):
        self.gives(row_of([(self.low, False), (self.high, False)]), ("sum", ((self.low, True, ONE), (self.high, True, ONE))))
        self.gives(row_of([(self.low, False), (self.high, False)]),
                   ("sum", ((self.high, True, (5, 3)), (self.low, True, (5, 3)))))
        third = most([(A, (2, 1)), (B, (-1, 3))], (1, 2))
        fourth = most([(B, HALF)], (-7, 1))
        parts = ((third, True, ONE), (self.high, True, (2, 1)), (fourth, True, (2, 3)))
        self.gives(row_of([(third, False), (self.high, False), (fourth, False)]), ("sum", parts))

    def test_sums_that_do_not_come_to_nothing(self):
        for parts in (((self.low, True, ONE),), ((self.high, True, ONE),),
                      ((self.low, True, ONE), (self.high, True, (2, 1))),
                      ((self.low, False, ONE), (self.high, True, ONE)),
                      ((self.low, True, ONE), (self.high, True, ONE), (most([(B, ONE)], (-9, 1)), True, ONE)),
                      ((self.low, True, ONE), (most([(FA, (-1, 1))], (-1, 1)), True, ONE))):
            self.refuses(("sum", parts))

    def test_numbers_that_come_to_0(self):
        one, other = most([(A, ONE), (B, (-1, 1))], (1, 3)), most([(A, (-1, 1)), (B, ONE)], (-1, 3))
        self.refuses(("sum", ((one, True, ONE), (other, True, ONE))))
        # That one does not hold while a copy of it does: the contrary brought in with its own weight.
        twice = most([(A, (2, 1)), (B, (-2, 1))], (2, 3))
        self.gives(row_of([(one, False), (twice, True)]), ("sum", ((one, True, (2, 1)), (twice, False, ONE))))
        self.gives(row_of([(one, True), (twice, False)]), ("sum", ((one, False, (2, 1)), (twice, True, ONE))))
        self.gives(row_of([(one, True), (other, True)]), ("sum", ((one, False, ONE), (other, False, ONE))))
        self.refuses(("sum", ((one, False, ONE), (twice, False, HALF))))

    def test_numbers_that_come_to_above_0(self):
        one, other = most([(A, ONE)], ONE), most([(A, (-1, 1))], (-1, 2))
        self.refuses(("sum", ((one, True, ONE), (other, True, ONE))))
        self.gives(row_of([(one, True), (other, True)]), ("sum", ((one, False, ONE), (other, False, ONE))))
        three = most([(A, ONE)], (3, 1))
        self.refuses(("sum", ((three, True, ONE), (one, False, ONE))))
        self.gives(row_of([(one, False), (three, True)]), ("sum", ((one, True, ONE), (three, False, ONE))))

    def test_an_atom_in_two_parts(self):
        no = most([], (-1, 1))
        self.gives(((no, False),), ("sum", ((no, True, ONE),)))
        for truth, other in itertools.product((True, False), repeat=2):
            self.refuses(("sum", ((no, truth, ONE), (no, other, ONE))))
            self.refuses(("sum", ((no, truth, ONE), (self.low, True, ONE), (no, other, HALF), (self.high, True, ONE))))
        self.refuses(("sum", ((self.low, True, ONE), (self.low, False, ONE))))
        self.refuses(("sum", ((self.low, True, HALF), (self.high, True, ONE), (self.low, True, HALF))))

    def test_calls_are_terms_like_others(self):
        one, other = most([(FA, ONE)], ZERO), most([(FB, (-1, 1))], (-1, 1))
        self.refuses(("sum", ((one, True, ONE), (other, True, ONE))))
        beside = most([(FA, (-1, 1))], (-1, 1))
        self.gives(row_of([(one, False), (beside, False)]), ("sum", ((one, True, ONE), (beside, True, ONE))))

    def test_long_numbers(self):
        one, other = most([(A, (1, 10 ** 199))], ZERO), most([(A, (-1, 1))], (-1, 10 ** 150))
        self.gives(row_of([(one, False), (other, False)]), ("sum", ((one, True, (10 ** 199, 1)), (other, True, ONE))))


class Likes(Given):
    def test_self(self):
        for term in (A, FA, call("f", FA, B, C)):
            self.gives((like(term, term),), ("self", term))

    def test_turn(self):
        self.gives((like(A, B, False), like(B, A)), ("turn", A, B))
        self.gives((like(A, B), like(B, A, False)), ("turn", B, A))
        self.gives((like(FA, FA, False), like(FA, FA)), ("turn", FA, FA))

    def test_chain(self):
        self.gives((like(A, B, False), like(A, C), like(B, C, False)), ("chain", (A, B, C)))
        self.gives(row_of([like(C, FA, False), like(FA, A, False), like(A, B, False), like(C, B)]),
                   ("chain", (C, FA, A, B)))
        self.gives((like(A, A, False), like(A, A)), ("chain", (A, A, A)))
        self.gives((like(A, A), like(A, B, False), like(B, A, False)), ("chain", (A, B, A)))
        self.gives((like(A, A, False), like(A, B, False), like(A, B)), ("chain", (A, A, B)))

    def test_calls(self):
        self.gives((like(FA, FB), like(A, B, False)), ("calls", FA, FB))
        self.gives((like(FA, FA), like(A, A, False)), ("calls", FA, FA))
        one, other = call("g", A, FA, A), call("g", B, FB, B)
        self.gives(row_of([like(A, B, False), like(FA, FB, False), like(one, other)]), ("calls", one, other))
        one, other = call("g", A, B), call("g", B, A)
        self.gives(row_of([like(A, B, False), like(B, A, False), like(one, other)]), ("calls", one, other))

    def test_calls_that_do_not_go_together(self):
        for one, other in ((FA, call("g", B)), (FA, call("f", B, B)), (call("f", A, B, C), call("f", A, B)), (A, FA),
                           (FA, A), (A, B), (A, A), (("name", "f"), ("name", "f")), (call("f", A, A), FB)):
            self.refuses(("calls", one, other))

    def test_level(self):
        self.gives((like(A, B, False), (most([(A, ONE), (B, (-1, 1))], ZERO), True)), ("level", A, B))
        self.gives((like(B, A, False), (most([(A, (-1, 1)), (B, ONE)], ZERO), True)), ("level", B, A))
        self.gives((like(FA, FA, False), (most([], ZERO), True)), ("level", FA, FA))

    def test_meet(self):
        down, up = most([(A, ONE), (B, (-1, 1))], ZERO), most([(A, (-1, 1)), (B, ONE)], ZERO)
        self.gives((like(A, B), (up, False), (down, False)), ("meet", A, B))
        self.gives((like(B, A), (up, False), (down, False)), ("meet", B, A))
        self.gives((like(A, A), (most([], ZERO), False)), ("meet", A, A))

    def test_they_hold_in_every_world(self):
        steps = [("self", FA), ("turn", A, FB), ("chain", (A, FA, B, FB)), ("calls", FA, FB), ("level", FA, B),
                 ("meet", A, FB), ("meet", FA, FB), ("calls", call("g", A, FA), call("g", B, FB))]
        numbers = [(0, 1), (1, 1), (-1, 2)]
        for values in itertools.product(numbers, repeat=4):
            calls = {("f", (values[0],)): values[2], ("f", (values[1],)): values[3], ("g", (ONE, ZERO)): ONE}
            world = ({}, {"a": values[0], "b": values[1]}, calls)
            for step in steps:
                self.assertIs(row_holds(row_by([], [], step), world), True)


class NoSteps(Given):
    def test_what_is_no_step(self):
        for thing in NO_TUPLES + [(), P, A, ("wish",), ("wish", True), ("wish", -1), ["wish", 0], ("open", ("not", P), 0),
                                  ("open", BOTH, -1), ("resolve", -1, 0, P), ("resolve", False, True, P),
                                  ("resolve", 0, 1, ("not", P)), ("sum", ()), ("chain", (A, B)), ("self", P)]:
            self.refuses(thing, [P, Q], [((P, True),), ((P, False),)])


class Papers(unittest.TestCase):
    wishes = [P, ("not", P), Q]
    paper = [("wish", 0), ("wish", 1), ("resolve", 0, 1, P)]

    def test_rows(self):
        self.assertEqual(rows_by(self.wishes, self.paper), [((P, True),), ((P, False),), ()])
        self.assertEqual(rows_by(self.wishes, []), [])
        self.assertEqual(rows_by([], [("self", A)]), [(like(A, A),)])

    def test_steps_name_those_ahead_alone(self):
        self.bad([("resolve", 1, 2, P), ("wish", 0), ("wish", 1)], 0)
        self.bad([("wish", 0), ("wish", 1), ("resolve", 0, 2, P)], 2)
        self.bad([("wish", 0), ("resolve", 0, 2, P), ("wish", 1)], 1)

    def bad(self, paper, place):
        before = copy.deepcopy(paper)
        with self.assertRaises(BadStep) as caught:
            rows_by(self.wishes, paper)
        self.assertEqual(caught.exception.place, place)
        self.assertIs(lets_by(self.wishes, paper), False)
        self.assertEqual(paper, before)

    def test_a_wrong_step_at_each_place(self):
        for wrong in NO_TUPLES + [(), ("wish", 3), ("resolve", 1, 0, P), ("open", P, 0), ("calls", A, A), ("chain", (A, B))]:
            for place in range(len(self.paper)):
                self.bad(self.paper[:place] + [wrong] + self.paper[place:], place)
                self.bad(self.paper[:place] + [wrong, wrong] + self.paper[place:], place)
            self.bad(self.paper + [wrong], len(self.paper))
            self.bad([wrong], 0)

    def test_let_by(self):
        self.assertIs(lets_by(self.wishes, self.paper), True)
        self.assertIs(lets_by(self.wishes[:2], self.paper), True)
        self.assertIs(lets_by([("either", ())], [("wish", 0), ("open", ("either", ()), 0),
                                                 ("resolve", 0, 1, ("either", ()))]), True)

    def test_not_let_by(self):
        for wishes in ([], [P], [P, Q], [("not", P), P], [Q, ("not", Q)]):
            self.assertIs(lets_by(wishes, self.paper), False)
        for paper in (self.paper[:1], self.paper[:2], self.paper + [("wish", 2)], [("self", A)], [], self.paper[1:]):
            self.assertIs(lets_by(self.wishes, paper), False)

    def test_what_is_no_list(self):
        for thing in NO_TUPLES + [tuple(self.paper), (), {0: ("wish", 0)}, ("wish", 0), "wish 0", [self.paper], P]:
            self.assertIs(lets_by(self.wishes, thing), False)

    def test_a_paper_of_all_that_sums_and_likes_can_do(self):
        # a is at most b, b at most a, so they are alike, and so are (f a) and (f b); but their difference is above 0.
        wishes = [most([(A, ONE), (B, (-1, 1))], ZERO), most([(A, (-1, 1)), (B, ONE)], ZERO),
                  most([(FA, (-1, 1)), (FB, ONE)], (-1, 7))]
        level = most([(FA, ONE), (FB, (-1, 1))], ZERO)
        paper = [
            ("wish", 0), ("wish", 1), ("wish", 2), ("meet", A, B), ("resolve", 0, 3, wishes[0]),
            ("resolve", 1, 4, wishes[1]), ("calls", FA, FB), ("resolve", 5, 6, ("like", A, B)), ("level", FA, FB),
            ("resolve", 7, 8, ("like", FA, FB)), ("sum", ((wishes[2], True, ONE), (level, True, ONE))),
            ("resolve", 9, 10, level), ("resolve", 2, 11, wishes[2]),
        ]
        self.assertIs(lets_by(wishes, paper), True)
        for place in range(len(paper)):
            self.assertIs(lets_by(wishes, paper[:place] + paper[place + 1:]), False)

    def test_no_world_keeps_wishes_whose_paper_is_let_by(self):
        chance = random.Random(34)
        worlds = [(dict(zip("pqr", truths)), {"a": (value, 1)}, {}) for value in (-1, 0, 1)
                  for truths in itertools.product((True, False), repeat=3)]
        for turn in range(60):
            wishes, paper = some_paper(chance, [P, Q, R, ("like", A, B)][:chance.randint(1, 4)])
            self.assertIs(lets_by(wishes, paper), True)
            rows = rows_by(wishes, paper)
            for world in worlds:
                self.assertIs(keeps(wishes, world), False)
                some = [wish for wish in wishes if keeps([wish], world)]
                for step, row in zip(paper, rows):
                    if step[0] == "open" or (step[0] == "wish" and wishes[step[1]] in some):
                        self.assertIs(row_holds(row, world), True)

    def test_a_spoilt_paper_is_let_by_only_where_no_world_keeps_the_wishes(self):
        chance = random.Random(35)
        worlds = [(dict(zip("pq", truths)), {}, {}) for truths in itertools.product((True, False), repeat=2)]
        for turn in range(400):
            wishes, paper = some_paper(chance, [P, Q])
            del wishes[chance.randrange(len(wishes))]
            if any(keeps(wishes, world) for world in worlds):
                self.assertIs(lets_by(wishes, paper), False)

    def test_nothing_handed_in_is_changed_and_rows_are_the_askers_own(self):
        wishes, paper = list(self.wishes), list(self.paper)
        rows_by(wishes, paper).clear()
        lets_by(wishes, paper)
        self.assertEqual((wishes, paper), (self.wishes, self.paper))
        self.assertEqual(len(rows_by(wishes, paper)), 3)


if __name__ == "__main__":
    unittest.main()
