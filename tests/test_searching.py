import copy
import itertools
import random
import unittest

from plain import A, B, within_calls
from smallword.rows import resolved, row_of
from smallword.searching import searched
from test_learning import BOTH, DEEP, P, Q, R, S, T, no, row, some_rows


def letters(number):
    """A flag of its own for each number."""
    return ("flag", "abcdefghij"[number // 10] + "abcdefghij"[number % 10])


def pigeons(many, places):
    """Rows that say that each of many things has a place, and no two have one."""
    at = [[letters(each * places + place) for place in range(places)] for each in range(many)]
    rows = [row(*each) for each in at]
    for place in range(places):
        for one, other in itertools.combinations(range(many), 2):
            rows.append(row(no(at[one][place]), no(at[other][place])))
    return rows


def odd_rows(things, odd):
    """Rows that say that of these things an odd count is True, or an even one."""
    rows = []
    for truths in itertools.product((True, False), repeat=len(things)):
        if sum(truths) % 2 != odd:
            rows.append(row_of([(thing, not truth) for thing, truth in zip(things, truths)]))
    return rows


class Searched(unittest.TestCase):
    def looked_over(self, rows):
        """What is told of rows, "truths" or "steps", once it is looked over."""
        before = copy.deepcopy(rows)
        told = searched(rows)
        self.assertEqual(rows, before)
        self.assertIs(type(told), tuple)
        kind, thing = told
        if kind == "truths":
            self.assertIs(type(thing), dict)
            self.assertEqual({each for row in rows for each, truth in row}, set(thing))
            self.assertTrue(all(type(truth) is bool for truth in thing.values()))
            self.assertTrue(all(any(thing[each] == truth for each, truth in row) for row in rows))
            return kind
        self.assertEqual(kind, "steps")
        self.assertIs(type(thing), list)
        if () in rows:
            self.assertEqual(thing, [])
            return kind
        known = list(rows)
        for kind, one, other, by in thing:
            self.assertEqual(kind, "resolve")
            known.append(resolved(known[one], known[other], by))
        self.assertTrue(thing)
        self.assertEqual(known[-1], ())
        return "steps"

    def meet(self, rows):
        self.assertEqual(self.looked_over(rows), "truths")

    def none_meet(self, rows):
        self.assertEqual(self.looked_over(rows), "steps")

    def test_no_rows(self):
        self.assertEqual(searched([]), ("truths", {}))

    def test_the_row_of_no_literals(self):
        for rows in ([()], [(), ()], [row(P), ()], [row(P), row(no(P)), ()], [(), row(P), row(no(P))]):
            self.assertEqual(searched(rows), ("steps", []))

    def test_one_thing(self):
        self.assertEqual(searched([row(P)]), ("truths", {P: True}))
        self.assertEqual(searched([row(no(P))]), ("truths", {P: False}))
        self.none_meet([row(P), row(no(P))])
        self.none_meet([row(no(P)), row(P)])
        self.assertEqual(searched([row(no(P)), row(P)]), ("steps", [("resolve", 1, 0, P)]))

    def test_both_truths_of_a_thing(self):
        self.meet([row(P, no(P))])
        self.meet([row(P, no(P)), row(no(P), Q, no(Q)), row(R)])
        self.none_meet([row(P, no(P)), row(Q), row(no(Q))])

    def test_rows_alike(self):
        self.meet([row(P, Q)] * 3 + [row(no(P))] * 2)
        self.none_meet([row(P, Q), row(no(P)), row(P, Q), row(no(P)), row(no(Q)), row(no(Q))])

    def test_what_is_forced_at_once(self):
        chain = [row(P), row(no(P), Q), row(no(Q), R), row(no(R), no(P), S)]
        self.meet(chain)
        self.none_meet(chain + [row(no(S), no(Q))])
        self.none_meet([row(no(S), no(Q))] + chain[::-1])

    def test_what_must_be_tried(self):
        every = [row((P, one), (Q, other), (R, last)) for one, other, last in itertools.product((True, False), repeat=3)]
        self.none_meet(every)
        for at in range(len(every)):
            self.meet(every[:at] + every[at + 1:])
        self.none_meet([row(P, Q), row(P, no(Q)), row(no(P), R), row(no(P), no(R)), row(S, T)])

    def test_things_of_every_kind(self):
        self.meet([row(no(BOTH), DEEP), row(BOTH, P), row(no(P), BOTH)])
        self.none_meet([row(no(BOTH), DEEP), row(BOTH, P), row(no(P), BOTH), row(no(DEEP), ("like", A, B)),
                   row(no(("like", A, B)), no(DEEP))])
        self.none_meet([row(("like", within_calls(A, 18), B)), row(no(("like", within_calls(A, 18), B)))])

    def test_more_things_than_places(self):
        for places in range(1, 7):
            self.none_meet(pigeons(places + 1, places))
            self.meet(pigeons(places, places))

    def test_eight_things_and_seven_places(self):
        self.none_meet(pigeons(8, 7))

    def test_odd_and_even(self):
        # Each thing stands in two of the rings' rows, so the count of all is even, whatever the truths.
        chance = random.Random(3)
        for many in (6, 10, 20):
            ends = list(range(many)) * 3
            chance.shuffle(ends)
            pairs = list(zip(ends[::2], ends[1::2]))
            at = [[letters(place) for place, pair in enumerate(pairs) if pair.count(each) == 1] for each in range(many)]
            rows = [each for place, things in enumerate(at) for each in odd_rows(things, 1 if place == 0 else 0)]
            if at[0]:
                self.none_meet(rows)
            self.meet([each for things in at for each in odd_rows(things, 0) if things])

    def test_hundreds_of_rows(self):
        chance = random.Random(83)
        kinds = {"truths": 0, "steps": 0}
        for turn in range(30):
            things = [letters(number) for number in range(chance.choice([40, 50, 60]))]
            count = len(things) * chance.choice([38, 42, 46, 60, 100]) // 10
            rows = [row_of([(thing, chance.random() < 0.5) for thing in chance.sample(things, 3)])
                    for each in range(count)]
            kinds[self.looked_over(rows)] += 1
        self.assertGreater(min(kinds.values()), 5)

    def test_by_chance(self):
        chance = random.Random(84)
        kinds = {"truths": 0, "steps": 0}
        for turn in range(500):
            things = [letters(number) for number in range(chance.randint(1, 7))]
            rows = some_rows(chance, chance.randint(0, 40), things, chance.choice([2, 3, 5]))
            told = self.looked_over(rows)
            found = False
            for truths in itertools.product((True, False), repeat=len(things)):
                by = dict(zip(things, truths))
                found = found or all(any(by[thing] == truth for thing, truth in each) for each in rows)
            self.assertEqual(told, "truths" if found else "steps")
            kinds[told] += 1
        self.assertGreater(min(kinds.values()), 100)

    def test_what_is_told_is_the_askers_own(self):
        searched([row(P)])[1].clear()
        searched([row(P), row(no(P))])[1].clear()
        self.assertEqual(searched([row(P)]), ("truths", {P: True}))
        self.none_meet([row(P), row(no(P))])


if __name__ == "__main__":
    unittest.main()
