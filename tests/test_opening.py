import copy
import random
import unittest

from plain import A, B, ZERO
from smallword.checker import rows_by
from smallword.opening import opened
from smallword.rows import lit, openings, row_of
from smallword.sums import less_sum
from smallword.wishes import parts_of
from somewishes import some_atoms, some_wish

P, Q = ("flag", "p"), ("flag", "q")


def opened_plainly(wishes):
    """The opening steps, by the words of the document."""
    things = []
    for wish in wishes:
        for part in parts_of(wish):
            if part[0] in ("both", "either") and part not in things:
                things.append(part)
    steps = [("wish", number) for number in range(len(wishes))]
    return steps + [("open", thing, number) for thing in things for number in range(len(openings(thing)))]


class Opened(unittest.TestCase):
    def told(self, wishes):
        before = copy.deepcopy(wishes)
        steps = opened(wishes)
        self.assertEqual(wishes, before)
        self.assertIs(type(steps), list)
        self.assertEqual(steps, opened_plainly(wishes))
        rows = rows_by(wishes, steps)
        self.assertEqual(rows[:len(wishes)], [row_of([lit(wish, True)]) for wish in wishes])
        return steps[len(wishes):]

    def test_no_wishes(self):
        self.assertEqual(opened([]), [])

    def test_atoms_alone(self):
        atoms = [P, ("like", A, B), ("most", less_sum(A, B), ZERO), ("not", Q), ("not", ("not", P)), P]
        self.assertEqual(self.told(atoms), [])
        self.assertEqual(opened(atoms)[-1], ("wish", 5))

    def test_both_and_either(self):
        both = ("both", (P, ("not", Q)))
        either = ("either", (P,))
        self.assertEqual(self.told([both]), [("open", both, 0), ("open", both, 1), ("open", both, 2)])
        self.assertEqual(self.told([P, either]), [("open", either, 0), ("open", either, 1)])

    def test_of_none(self):
        both, either = ("both", ()), ("either", ())
        self.assertEqual(self.told([both, either]), [("open", both, 0), ("open", either, 0)])

    def test_within_one_another_and_in_not(self):
        inner = ("both", (Q,))
        outer = ("either", (("not", inner), P))
        steps = [("open", inner, 0), ("open", inner, 1)] + [("open", outer, number) for number in range(3)]
        self.assertEqual(self.told([outer]), steps)
        self.assertEqual(self.told([("not", ("not", outer))]), steps)
        self.assertEqual(self.told([("not", outer), P]), steps)

    def test_the_same_part_in_several_wishes(self):
        one, other = ("both", (P, Q)), ("either", (Q, P))
        over = ("both", (other, one))
        steps = [("open", one, 0), ("open", one, 1), ("open", one, 2), ("open", other, 0), ("open", other, 1),
                 ("open", other, 2), ("open", over, 0), ("open", over, 1), ("open", over, 2)]
        self.assertEqual(self.told([one, over, one, ("not", other), over]), steps)
        self.assertEqual(self.told([over])[:3], steps[3:6])

    def test_by_chance(self):
        chance = random.Random(84)
        for turn in range(100):
            atoms = some_atoms(chance, 4, 4, 4)
            self.told([some_wish(chance, atoms, 3) for each in range(chance.randint(0, 6))])

    def test_what_is_told_is_the_askers_own(self):
        opened([P]).clear()
        self.assertEqual(opened([P]), [("wish", 0)])


if __name__ == "__main__":
    unittest.main()
