import random
import unittest

from plain import A, B, NO_TUPLES, call, spoilt
from smallword.benches import Bench
from smallword.checker import lets_by
from smallword.deciding import decided
from smallword.errors import NoLevel, NoWish
from smallword.least import least_reason
from smallword.wishes import is_wish
from smallword.worlds import keeps
from somewishes import some_atoms, some_wish

P, Q, R = ("flag", "p"), ("flag", "q"), ("flag", "r")
LIKE = ("like", A, call("f", B))
WISHES = [P, ("not", Q), ("both", (P, Q)), ("either", ()), LIKE, ("most", ((A, (1, 2)),), (0, 1))]


class Benches(unittest.TestCase):
    def stands(self, bench, wishes, level):
        """Look over a bench that is to have these wishes and this level; yes or no."""
        self.assertEqual(bench.wishes(), wishes)
        self.assertEqual(bench.level(), level)
        kind, told = bench.ask()
        self.assertEqual(kind, decided(wishes)[0])
        self.assertIs(keeps(wishes, told) if kind == "yes" else lets_by(wishes, told), True)
        numbers = bench.reason()
        if kind == "yes":
            self.assertIsNone(numbers)
        else:
            self.assertEqual(decided([wishes[number] for number in numbers])[0], "no")
            self.assertEqual(least_reason([wishes[number] for number in numbers]), list(range(len(numbers))))
        return kind

    def test_a_new_bench(self):
        self.assertEqual(self.stands(Bench(), [], 0), "yes")
        self.assertEqual(Bench().ask(), ("yes", ({}, {}, {})))

    def test_numbers(self):
        bench = Bench()
        self.assertEqual([bench.put(wish) for wish in WISHES + [P]], list(range(7)))
        self.assertEqual(bench.wishes(), WISHES + [P])

    def test_levels(self):
        bench = Bench()
        self.assertEqual([bench.push(), bench.push(), bench.push()], [1, 2, 3])
        self.assertEqual(bench.level(), 3)
        self.assertEqual([bench.pop(), bench.pop(), bench.push(), bench.pop(), bench.pop()], [2, 1, 2, 1, 0])
        self.assertEqual(bench.level(), 0)

    def test_pop_at_level_0(self):
        bench = Bench()
        with self.assertRaises(NoLevel):
            bench.pop()
        self.stands(bench, [], 0)
        bench.put(P)
        bench.push()
        bench.put(Q)
        bench.pop()
        for each in range(2):
            with self.assertRaises(NoLevel):
                bench.pop()
            self.stands(bench, [P], 0)
        self.assertEqual(bench.push(), 1)

    def test_wishes_taken_back(self):
        bench = Bench()
        bench.put(P)
        bench.push()
        self.assertEqual(bench.put(("not", Q)), 1)
        self.assertEqual(self.stands(bench, [P, ("not", Q)], 1), "yes")
        bench.push()
        bench.push()
        self.assertEqual(bench.put(Q), 2)
        self.assertEqual(self.stands(bench, [P, ("not", Q), Q], 3), "no")
        bench.pop()
        self.assertEqual(self.stands(bench, [P, ("not", Q)], 2), "yes")
        self.assertEqual(bench.put(("not", P)), 2)
        self.assertEqual(self.stands(bench, [P, ("not", Q), ("not", P)], 2), "no")
        bench.pop()
        self.assertEqual(self.stands(bench, [P, ("not", Q)], 1), "yes")
        bench.pop()
        self.assertEqual(self.stands(bench, [P], 0), "yes")
        self.assertEqual(bench.put(Q), 1)
        self.assertEqual(self.stands(bench, [P, Q], 0), "yes")

    def test_no_wishes(self):
        bench = Bench()
        bench.put(P)
        bench.push()
        others = NO_TUPLES + [(), ("flag",), ("flag", "P"), ("name", "a"), ("not", ("both", P)), ("both", [P]), A]
        others += [thing for wish in WISHES for thing in spoilt(wish) if not is_wish(thing)]
        self.assertGreater(len(others), 100)
        for thing in others:
            with self.assertRaises(NoWish):
                bench.put(thing)
        self.stands(bench, [P], 1)
        self.assertEqual(bench.put(Q), 1)

    def test_what_is_told_is_the_askers_own(self):
        bench = Bench()
        bench.put(P)
        bench.put(LIKE)
        bench.wishes().clear()
        bench.wishes().append(("not", P))
        for part in bench.ask()[1]:
            part.clear()
        self.assertEqual(self.stands(bench, [P, LIKE], 0), "yes")
        bench.put(("not", P))
        bench.ask()[1].clear()
        bench.reason().clear()
        self.assertEqual(self.stands(bench, [P, LIKE, ("not", P)], 0), "no")
        told = bench.wishes(), bench.ask(), bench.reason()
        bench.push()
        bench.put(R)
        self.assertEqual(told[0], [P, LIKE, ("not", P)])
        self.assertIs(lets_by(told[0], told[1][1]), True)
        self.assertEqual(told[2], [0, 2])

    def test_two_benches(self):
        one, other = Bench(), Bench()
        one.put(P)
        one.push()
        self.assertEqual(other.put(("not", P)), 0)
        self.assertEqual(other.level(), 0)
        one.put(Q)
        self.assertEqual(self.stands(one, [P, Q], 1), "yes")
        self.assertEqual(self.stands(other, [("not", P)], 0), "yes")
        one.pop()
        with self.assertRaises(NoLevel):
            other.pop()
        self.assertEqual(other.push(), 1)
        self.stands(one, [P], 0)

    def test_by_chance(self):
        chance = random.Random(86)
        kinds = {"yes": 0, "no": 0}
        for turn in range(15):
            atoms = some_atoms(chance, 3, 4, 4)
            bench, levels = Bench(), [[]]
            for each in range(20):
                deed = chance.choice(["put", "put", "push", "pop", "ask"])
                if deed == "put" and sum([len(level) for level in levels]) < 12:
                    levels[-1].append(some_wish(chance, atoms, 2))
                    self.assertEqual(bench.put(levels[-1][-1]), sum([len(level) for level in levels]) - 1)
                elif deed == "push":
                    levels.append([])
                    self.assertEqual(bench.push(), len(levels) - 1)
                elif deed == "pop" and len(levels) > 1:
                    levels.pop()
                    self.assertEqual(bench.pop(), len(levels) - 1)
                elif deed == "ask":
                    kinds[self.stands(bench, [wish for level in levels for wish in level], len(levels) - 1)] += 1
        self.assertGreater(min(kinds.values()), 5)


if __name__ == "__main__":
    unittest.main()
