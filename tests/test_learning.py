import copy
import random
import unittest

from plain import A, B, call, within_calls
from smallword.checker import rows_by
from smallword.learning import forced, learnt
from smallword.rows import resolved, row_of

P, Q, R, S, T = [("flag", letter) for letter in "pqrst"]
BOTH = ("both", (P, ("not", ("either", (Q, ("like", A, call("f", B)))))))
DEEP = ("like", within_calls(A, 18), within_calls(B, 18))


def row(*literals):
    """A row of things that are True, and of (thing, truth)."""
    return row_of([(each, True) if isinstance(each[0], str) else each for each in literals])


def no(thing):
    return (thing, False)


def stands(literal, truths):
    """True, False, or None where a literal is open."""
    thing, truth = literal
    return truths[thing] == truth if thing in truths else None


def forced_plainly(rows, truths):
    """What is forced, by the words of the document."""
    truths = dict(truths)
    more = []
    while True:
        for place, each in enumerate(rows):
            if all(stands(literal, truths) is False for literal in each):
                return more, place
        for place, each in enumerate(rows):
            left = [literal for literal in each if stands(literal, truths) is None]
            if len(left) == 1 and not any(stands(literal, truths) for literal in each):
                more.append((left[0], place))
                truths[left[0][0]] = left[0][1]
                break
        else:
            return more, None


def some_rows(chance, count, things, longest):
    return [row_of([(thing, chance.random() < 0.5) for thing in chance.choices(things, k=chance.randint(1, longest))])
            for each in range(count)]


class Forced(unittest.TestCase):
    def told(self, rows, truths):
        before = copy.deepcopy((rows, truths))
        told = forced(rows, truths)
        self.assertEqual((rows, truths), before)
        self.assertIs(type(told), tuple)
        self.assertIs(type(told[0]), list)
        self.assertEqual(told, forced_plainly(rows, truths))
        return told

    def test_no_rows(self):
        self.assertEqual(self.told([], {}), ([], None))
        self.assertEqual(self.told([], {P: True}), ([], None))

    def test_the_row_of_no_literals(self):
        self.assertEqual(self.told([()], {}), ([], 0))
        self.assertEqual(self.told([row(P), ()], {}), ([], 1))
        self.assertEqual(self.told([(), ()], {P: True}), ([], 0))

    def test_nothing_is_forced(self):
        self.assertEqual(self.told([row(P, Q)], {}), ([], None))
        self.assertEqual(self.told([row(P, Q)], {P: True}), ([], None))
        self.assertEqual(self.told([row(P)], {P: True}), ([], None))

    def test_forced_in_their_order(self):
        self.assertEqual(self.told([row(P)], {}), ([((P, True), 0)], None))
        self.assertEqual(self.told([row(no(P))], {}), ([((P, False), 0)], None))
        rows = [row(no(Q), R), row(no(P), Q), row(P)]
        self.assertEqual(self.told(rows, {}), ([((P, True), 2), ((Q, True), 1), ((R, True), 0)], None))
        rows = [row(no(P), S), row(P), row(T), row(no(P), no(R))]
        self.assertEqual(
            self.told(rows, {}), ([((P, True), 1), ((S, True), 0), ((T, True), 2), ((R, False), 3)], None))

    def test_the_least_place_gives(self):
        rows = [row(P, Q), row(no(P)), row(Q), row(P, Q)]
        self.assertEqual(self.told(rows, {}), ([((P, False), 1), ((Q, True), 0)], None))
        self.assertEqual(self.told([row(P, no(Q)), row(P, no(Q))], {Q: True}), ([((P, True), 0)], None))

    def test_a_failing_row_at_once(self):
        self.assertEqual(self.told([row(P), row(Q)], {Q: False}), ([], 1))
        self.assertEqual(self.told([row(R), row(P, no(Q)), row(no(Q))], {P: False, Q: True}), ([], 1))

    def test_a_failing_row_behind_some_that_were_forced(self):
        rows = [row(no(P), no(Q)), row(P), row(no(P), Q)]
        self.assertEqual(self.told(rows, {}), ([((P, True), 1), ((Q, False), 0)], 2))
        # Two rows come to fail at once: the least place is told.
        rows = [row(R, S), row(no(P), R), row(P, R), row(no(R))]
        self.assertEqual(self.told(rows, {S: True}), ([((R, False), 3), ((P, False), 1)], 2))

    def test_rows_alike(self):
        self.assertEqual(self.told([row(P), row(P), row(P)], {}), ([((P, True), 0)], None))
        self.assertEqual(self.told([row(P, Q), row(P, Q)], {P: False, Q: False}), ([], 0))

    def test_both_truths_of_a_thing(self):
        self.assertEqual(self.told([row(P, no(P))], {}), ([], None))
        for truth in (True, False):
            self.assertEqual(self.told([row(P, no(P), Q)], {P: truth}), ([], None))
            self.assertEqual(self.told([row(P, no(P), Q)], {Q: truth}), ([], None))

    def test_truths_of_things_that_stand_in_no_row(self):
        self.assertEqual(self.told([row(P, Q)], {R: True, S: False}), ([], None))
        self.assertEqual(self.told([row(P, Q)], {R: True, P: False, DEEP: True}), ([((Q, True), 0)], None))

    def test_things_of_every_kind(self):
        rows = [row(no(BOTH), DEEP), row(BOTH, P), row(no(P), BOTH)]
        self.assertEqual(self.told(rows, {P: True}), ([((BOTH, True), 2), ((DEEP, True), 0)], None))
        self.assertEqual(self.told(rows, {DEEP: False}), ([((BOTH, False), 0), ((P, True), 1)], 2))

    def test_by_chance(self):
        chance = random.Random(81)
        ends = {True: 0, False: 0}
        for turn in range(400):
            things = [("flag", letter) for letter in "abcdefghijklmnop"[:chance.randint(1, 16)]]
            rows = some_rows(chance, chance.randint(0, 30), things, chance.choice([2, 3, 5]))
            truths = {thing: chance.random() < 0.5 for thing in things if chance.random() < 0.2}
            ends[self.told(rows, truths)[1] is None] += 1
        self.assertGreater(min(ends.values()), 50)

    def test_many_rows_and_things(self):
        things = [("flag", one + other) for one in "abcdef" for other in "abcdefghij"]
        rows = [row(no(one), other) for one, other in zip(things, things[1:])][::-1] * 10 + [row(things[0])]
        more, fails = self.told(rows, {})
        self.assertEqual(len(more), 60)
        self.assertEqual(self.told(rows + [row(*[no(thing) for thing in things])], {})[1], len(rows))

    def test_what_is_told_is_the_askers_own(self):
        rows = [row(P)]
        forced(rows, {})[0].clear()
        self.assertEqual(self.told(rows, {}), ([((P, True), 0)], None))


class Learnt(unittest.TestCase):
    def told(self, rows, truths):
        """What is learnt, once it is looked over."""
        before = copy.deepcopy((rows, truths))
        told = learnt(rows, truths)
        self.assertEqual((rows, truths), before)
        more, fails = forced_plainly(rows, truths)
        if fails is None:
            self.assertIsNone(told)
            return None
        last, steps = told
        self.assertIs(type(told), tuple)
        self.assertIs(type(steps), list)
        self.assertEqual(told, self.learnt_plainly(rows, more, fails))
        self.assertTrue(all(stands(literal, truths) is False for literal in last))
        known = list(rows)
        for kind, one, other, thing in steps:
            self.assertEqual(kind, "resolve")
            known.append(resolved(known[one], known[other], thing))
        self.assertEqual(last, known[-1] if steps else rows[fails])
        return told

    def learnt_plainly(self, rows, more, fails):
        """What is learnt, by the words of the document."""
        last, place, steps = rows[fails], fails, []
        for (thing, truth), giver in more[::-1]:
            if (thing, not truth) in last:
                steps.append(("resolve",) + ((giver, place) if truth else (place, giver)) + (thing,))
                rest = [literal for literal in last + rows[giver] if literal[0] != thing]
                last, place = row_of(rest), len(rows) + len(steps) - 1
        return last, steps

    def test_none_fails(self):
        for rows, truths in (([], {}), ([row(P)], {}), ([row(P, Q)], {P: False}), ([row(P, no(P))], {P: True})):
            self.assertIsNone(self.told(rows, truths))

    def test_a_row_that_fails_at_once(self):
        self.assertEqual(self.told([()], {}), ((), []))
        self.assertEqual(self.told([row(R), row(P, no(Q))], {P: False, Q: True}), (row(P, no(Q)), []))

    def test_one_resolve(self):
        rows = [row(P), row(no(P))]
        self.assertEqual(self.told(rows, {}), ((), [("resolve", 0, 1, P)]))
        self.assertEqual(self.told(rows[::-1], {}), ((), [("resolve", 1, 0, P)]))

    def test_several_resolves(self):
        rows = [row(no(P), no(Q)), row(P), row(no(P), Q)]
        self.assertEqual(self.told(rows, {}), ((), [("resolve", 2, 0, Q), ("resolve", 1, 3, P)]))
        rows = [row(no(P), Q), row(no(Q), R), row(no(Q), no(R), S)]
        told = (row(no(P), S), [("resolve", 1, 2, R), ("resolve", 0, 3, Q)])
        self.assertEqual(self.told(rows, {P: True, S: False}), told)

    def test_what_does_not_stand_in_the_row_is_left_out(self):
        rows = [row(no(P), T), row(no(P), Q), row(no(Q), no(S))]
        self.assertEqual(self.told(rows, {P: True, S: True}), (row(no(P), no(S)), [("resolve", 1, 2, Q)]))

    def test_things_of_every_kind(self):
        rows = [row(no(BOTH), DEEP), row(BOTH, P), row(no(P), BOTH)]
        self.assertEqual(self.told(rows, {DEEP: False})[0], row(DEEP))

    def test_steps_behind_a_paper(self):
        # The numbers are such as a paper has them that begins with the rows.
        wishes = [P, ("not", P), Q]
        paper = [("wish", place) for place in range(3)]
        steps = self.told([row(P), row(no(P)), row(Q)], {})[1]
        self.assertEqual(rows_by(wishes, paper + steps)[-1], ())

    def test_by_chance(self):
        chance = random.Random(82)
        lengths = []
        for turn in range(500):
            things = [("flag", letter) for letter in "abcdefghijklmnop"[:chance.randint(1, 16)]]
            rows = some_rows(chance, chance.randint(0, 40), things, chance.choice([2, 3, 4]))
            truths = {thing: chance.random() < 0.5 for thing in things if chance.random() < 0.2}
            told = self.told(rows, truths)
            lengths += [] if told is None else [len(told[1])]
        self.assertGreater(len(lengths), 100)
        self.assertGreater(max(lengths), 4)

    def test_what_is_told_is_the_askers_own(self):
        rows = [row(P), row(no(P))]
        learnt(rows, {})[1].clear()
        self.assertEqual(self.told(rows, {}), ((), [("resolve", 0, 1, P)]))


if __name__ == "__main__":
    unittest.main()
