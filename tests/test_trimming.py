import copy
import random
import unittest

from plain import A, B, some_paper
from smallword.checker import lets_by, rows_by
from smallword.laying import laid
from smallword.trimming import cut, rest_of, shortened

P, Q, R, S = ("flag", "p"), ("flag", "q"), ("flag", "r"), ("flag", "s")
EITHER = ("either", (P, Q))


def rests_on(paper, place):
    """The places of the steps on which one rests, told once more."""
    found = {place}
    if paper[place][0] == "resolve":
        found |= rests_on(paper, paper[place][1]) | rests_on(paper, paper[place][2])
    return found


def plainly_cut(paper):
    places = sorted(rests_on(paper, len(paper) - 1))
    told = []
    for step in [paper[place] for place in places]:
        if step[0] == "resolve":
            step = ("resolve", places.index(step[1]), places.index(step[2]), step[3])
        told.append(step)
    return told


def plainly_shortened(wishes, paper):
    """The document's own words, one by one."""
    fresh, stand_ins = [], {}
    for number, step in enumerate(plainly_cut(paper)):
        rows = rows_by(wishes, fresh)
        if step[0] == "resolve":
            one, other, thing = stand_ins[step[1]], stand_ins[step[2]], step[3]
            if (thing, True) not in rows[one]:
                stand_ins[number] = one
                continue
            if (thing, False) not in rows[other]:
                stand_ins[number] = other
                continue
            step = ("resolve", one, other, thing)
        row = rows_by(wishes, fresh + [step])[-1]
        within = [place for place, ahead in enumerate(rows) if set(ahead) <= set(row)]
        if within:
            stand_ins[number] = within[0]
            continue
        stand_ins[number] = len(fresh)
        fresh.append(step)
        if row == ():
            break
    return plainly_cut(fresh)


class RestAndCut(unittest.TestCase):
    def test_rest(self):
        paper = [("wish", 4), ("wish", 0), ("wish", 2), ("wish", 4), ("resolve", 1, 2, P), ("self", A), ("wish", 9),
                 ("resolve", 4, 3, Q)]
        self.assertEqual(rest_of(paper), [0, 2, 4])
        self.assertEqual(rest_of(paper[:7]), [9])
        self.assertEqual(rest_of(paper[:6]), [])
        self.assertEqual(rest_of(paper[:5]), [0, 2])
        self.assertEqual(rest_of([("wish", 3), ("wish", 3), ("resolve", 0, 1, P)]), [3])
        self.assertEqual(rest_of([("wish", 12), ("wish", 3), ("resolve", 0, 1, P)]), [3, 12])
        self.assertEqual(rest_of([("wish", 7)]), [7])

    def test_cut(self):
        paper = [("wish", 2), ("wish", 0), ("self", A), ("wish", 1), ("wish", 0), ("resolve", 1, 3, P)]
        self.assertEqual(cut(paper), [("wish", 0), ("wish", 1), ("resolve", 0, 1, P)])
        self.assertEqual(cut([("turn", A, B), ("wish", 5)]), [("wish", 5)])
        self.assertEqual(cut(cut(paper)), cut(paper))
        self.assertEqual(cut([("self", A)]), [("self", A)])

    def test_cut_keeps_what_is_needed_in_its_order(self):
        paper = [("self", A), ("wish", 0), ("wish", 0), ("open", EITHER, 2), ("self", B), ("resolve", 2, 3, EITHER),
                 ("wish", 1), ("resolve", 5, 6, P), ("wish", 2), ("self", A), ("resolve", 7, 8, Q)]
        self.assertEqual(cut(paper), [
            ("wish", 0), ("open", EITHER, 2), ("resolve", 0, 1, EITHER), ("wish", 1), ("resolve", 2, 3, P), ("wish", 2),
            ("resolve", 4, 5, Q)])

    def test_by_chance(self):
        chance = random.Random(38)
        for turn in range(60):
            wishes, paper = some_paper(chance, [P, Q, R, S][:chance.randint(1, 4)])
            before = copy.deepcopy(paper)
            told = cut(paper)
            self.assertEqual(told, plainly_cut(paper))
            self.assertIs(lets_by(wishes, told), True)
            self.assertEqual(cut(told), told)
            wish_steps = [paper[place][1] for place in rests_on(paper, len(paper) - 1) if paper[place][0] == "wish"]
            self.assertEqual(rest_of(paper), sorted(set(wish_steps)))
            self.assertEqual(rest_of(told), rest_of(paper))
            self.assertEqual(paper, before)
            told.clear()
            self.assertEqual(paper, before)


class Shortened(unittest.TestCase):
    wishes = [P, ("not", P), EITHER, ("not", Q), ("either", (P, Q, R)), ("not", R), ("both", (P, Q))]

    def shortens(self, paper, told):
        before = copy.deepcopy(paper)
        self.assertIs(lets_by(self.wishes, paper), True)
        self.assertEqual(shortened(self.wishes, paper), told)
        self.assertEqual(paper, before)

    def test_nothing_to_shorten(self):
        paper = [("wish", 0), ("wish", 1), ("resolve", 0, 1, P)]
        self.shortens(paper, paper)

    def test_steps_that_nothing_rests_on(self):
        self.shortens([("self", A), ("wish", 0), ("wish", 3), ("wish", 1), ("turn", A, B), ("resolve", 1, 3, P)],
                      [("wish", 0), ("wish", 1), ("resolve", 0, 1, P)])

    def test_one_row_twice(self):
        # The either is opened twice; both resolves take the first opening's row.
        paper = [("wish", 2), ("open", EITHER, 2), ("resolve", 0, 1, EITHER), ("wish", 1), ("resolve", 2, 3, P),
                 ("wish", 2), ("open", EITHER, 2), ("resolve", 5, 6, EITHER), ("wish", 3), ("resolve", 7, 8, Q),
                 ("wish", 1), ("resolve", 9, 10, P)]
        self.shortens(paper, [("wish", 2), ("open", EITHER, 2), ("resolve", 0, 1, EITHER), ("wish", 3),
                              ("resolve", 2, 3, Q), ("wish", 1), ("resolve", 4, 5, P)])

    def test_the_first_row_within_stands_in(self):
        # Two steps give rows within p or q: p by wish 0, and q; the first of them stands in for it.
        wishes = [P, Q, ("not", P), ("not", Q)]
        other = ("either", (Q, P))
        paper = [("wish", 1), ("wish", 0), ("open", other, 0), ("resolve", 0, 2, Q), ("open", other, 2),
                 ("resolve", 3, 4, other), ("open", EITHER, 0), ("resolve", 1, 6, P), ("open", EITHER, 2),
                 ("resolve", 7, 8, EITHER), ("wish", 2), ("resolve", 5, 10, P), ("resolve", 9, 10, P), ("wish", 3),
                 ("resolve", 11, 13, Q)]
        self.assertEqual(rows_by(wishes, paper)[5], ((P, True), (Q, True)))
        self.assertIs(lets_by(wishes, paper), True)
        self.assertEqual(shortened(wishes, paper), [("wish", 1), ("wish", 3), ("resolve", 0, 1, Q)])
        self.assertEqual(shortened(wishes, paper[:14] + [("resolve", 12, 13, Q)]),
                         [("wish", 0), ("wish", 2), ("resolve", 0, 1, P)])

    def test_a_resolve_whose_first_row_lacks_its_thing(self):
        # p or q comes by a detour from p, which then stands in for it: q is in it no longer.
        detour = [("wish", 0), ("open", EITHER, 0), ("resolve", 0, 1, P), ("open", EITHER, 2),
                  ("resolve", 2, 3, EITHER), ("wish", 3), ("resolve", 4, 5, Q), ("wish", 1), ("resolve", 6, 7, P)]
        self.shortens(detour, [("wish", 0), ("wish", 1), ("resolve", 0, 1, P)])
        self.assertEqual(rest_of(detour), [0, 1, 3])

    def test_a_resolve_whose_other_row_lacks_its_thing(self):
        # not p, widened by not q, is resolved with q, though not p stands in for it.
        wishes = [("not", P), Q, P]
        either = ("either", (("not", P), ("not", Q)))
        paper = [("wish", 0), ("open", either, 0), ("resolve", 1, 0, P), ("open", either, 2),
                 ("resolve", 2, 3, either), ("wish", 1), ("resolve", 5, 4, Q), ("wish", 2), ("resolve", 7, 6, P)]
        self.assertIs(lets_by(wishes, paper), True)
        self.assertEqual(shortened(wishes, paper), [("wish", 0), ("wish", 2), ("resolve", 1, 0, P)])

    def test_behind_the_first_empty_row_nothing_is_done(self):
        paper = [("wish", 0), ("wish", 1), ("resolve", 0, 1, P), ("wish", 2), ("open", EITHER, 2),
                 ("resolve", 3, 4, EITHER), ("wish", 3), ("resolve", 5, 6, Q), ("resolve", 7, 1, P)]
        # Nothing rests on the first (), so it is cut; the rest has none but at its end.
        self.shortens(paper, cut(paper))
        # Here the first row is () by the stand-ins long before the last step.
        wishes = [("either", ()), P, ("not", P)]
        none = ("either", ())
        self.assertIs(lets_by(wishes, [("wish", 0), ("open", none, 0), ("resolve", 0, 1, none)]), True)
        wide = ("either", (none, P))
        paper = [("wish", 1), ("open", wide, 1), ("resolve", 0, 1, P), ("open", wide, 2), ("resolve", 2, 3, wide),
                 ("wish", 2), ("resolve", 4, 5, P), ("open", none, 0), ("resolve", 6, 7, none)]
        self.assertIs(lets_by(wishes, paper), True)
        self.assertEqual(shortened(wishes, paper), [("wish", 1), ("wish", 2), ("resolve", 0, 1, P)])

    def test_by_chance(self):
        chance = random.Random(39)
        fewer = 0
        for turn in range(150):
            wishes, paper = some_paper(chance, [P, Q, R, S, ("like", A, B)][:chance.randint(1, 5)])
            before = copy.deepcopy((wishes, paper))
            told = shortened(wishes, paper)
            self.assertEqual(told, plainly_shortened(wishes, paper))
            self.assertIs(lets_by(wishes, told), True)
            self.assertLessEqual(len(told), len(cut(paper)))
            self.assertLessEqual(set(rest_of(told)), set(rest_of(paper)))
            self.assertEqual(shortened(wishes, told), told)
            fewer += len(told) < len(cut(paper))
            told.clear()
            self.assertEqual((wishes, paper), before)
        self.assertGreater(fewer, 30)

    def test_long_papers(self):
        flags = [("flag", "p" + chr(97 + number // 26) + chr(97 + number % 26)) for number in range(600)]
        wishes = [flags[0], ("not", flags[-1])]
        wishes += [("either", (("not", one), other)) for one, other in zip(flags, flags[1:])]
        paper = [("wish", 0)]
        for number, wish in enumerate(wishes[2:]):
            last = len(paper) - 1
            paper += [("wish", number + 2), ("open", wish, 2), ("resolve", last + 1, last + 2, wish),
                      ("resolve", last, last + 3, flags[number])]
        paper += [("wish", 1), ("resolve", len(paper) - 1, len(paper), flags[-1])]
        self.assertIs(lets_by(wishes, paper), True)
        self.assertEqual(shortened(wishes, paper), paper)
        self.assertEqual(rest_of(paper), list(range(len(wishes))))


class Laid(unittest.TestCase):
    paper = [("wish", 0), ("wish", 1), ("self", A)]
    steps = [("turn", A, B), ("resolve", 0, 1, P), ("resolve", 2, 3, Q), ("resolve", 3, 2, R)]

    def test_no_places(self):
        self.assertEqual(laid(self.paper, self.steps, []), self.paper + [
            ("turn", A, B), ("resolve", 3, 4, P), ("resolve", 5, 6, Q), ("resolve", 6, 5, R)])
        self.assertEqual(laid([], self.steps, []), self.steps)

    def test_one_place(self):
        self.assertEqual(laid(self.paper, self.steps, [2]), self.paper + [
            ("turn", A, B), ("resolve", 2, 3, P), ("resolve", 4, 5, Q), ("resolve", 5, 4, R)])

    def test_several_places_and_one_twice(self):
        self.assertEqual(laid(self.paper, self.steps, [2, 0]), self.paper + [
            ("turn", A, B), ("resolve", 2, 0, P), ("resolve", 3, 4, Q), ("resolve", 4, 3, R)])
        self.assertEqual(laid(self.paper, self.steps, [1, 1, 0]), self.paper + [
            ("turn", A, B), ("resolve", 1, 1, P), ("resolve", 0, 3, Q), ("resolve", 3, 0, R)])
        self.assertEqual(laid(self.paper, self.steps, [2, 0, 1, 0, 2]), self.paper + [
            ("turn", A, B), ("resolve", 2, 0, P), ("resolve", 1, 0, Q), ("resolve", 0, 1, R)])

    def test_no_steps(self):
        self.assertEqual(laid(self.paper, [], [0, 1]), self.paper)
        self.assertEqual(laid([], [], []), [])

    def test_other_steps_stay(self):
        steps = [("wish", 0), ("open", EITHER, 1), ("chain", (A, B, A)), ("sum", ((("most", (), (0, 1)), False, (1, 1)),)),
                 ("self", A), ("calls", A, B), ("level", A, B), ("meet", A, B)]
        self.assertEqual(laid(self.paper, steps, [1, 2]), self.paper + steps)

    def test_rows_stay_those_that_the_steps_had(self):
        wishes = [P, ("either", (("not", P), Q)), ("not", Q)]
        either = wishes[1]
        first = [("wish", 1), ("open", either, 2), ("resolve", 0, 1, either), ("wish", 0), ("wish", 2)]
        steps = [("resolve", 0, 1, P), ("resolve", 3, 2, Q)]
        self.assertIs(lets_by(wishes, laid(first, steps, [3, 2, 4])), True)

    def test_nothing_handed_in_is_changed(self):
        paper, steps, places = list(self.paper), list(self.steps), [1, 0]
        laid(paper, steps, places).clear()
        self.assertEqual((paper, steps, places), (self.paper, self.steps, [1, 0]))
        told = laid(paper, [], [])
        told.append(("wish", 9))
        self.assertEqual(paper, self.paper)


if __name__ == "__main__":
    unittest.main()
