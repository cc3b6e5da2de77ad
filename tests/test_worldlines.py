import copy
import random
import unittest

from plain import HALF, ONE, ZERO
from smallword.errors import NoText
from smallword.fractions import fraction
from smallword.worldlines import read_world, world_lines
from smallword.worlds import is_world

LONG = 10 ** 59 + 1


class Written(unittest.TestCase):
    def lines(self, flags, values, calls):
        """The lines of a world, once they are read back."""
        world = (flags, values, calls)
        before = copy.deepcopy(world)
        lines = world_lines(world)
        self.assertEqual(world, before)
        self.assertIs(type(lines), list)
        left = ({key: True for key in flags if flags[key]}, {key: values[key] for key in values if values[key] != ZERO},
                {key: calls[key] for key in calls if calls[key] != ZERO})
        self.assertEqual(read_world(lines), left)
        return lines

    def test_a_world_without_anything(self):
        self.assertEqual(self.lines({}, {}, {}), [])

    def test_flags_and_values_left_out(self):
        self.assertEqual(self.lines({"p": False}, {"a": ZERO}, {("f", (ONE,)): ZERO}), [])
        self.assertEqual(self.lines({"q": True, "p": False}, {"b": ZERO, "a": ONE}, {}), ["flag q", "name a 1"])

    def test_names_alike_across_the_sorts(self):
        lines = self.lines({"a": True}, {"a": (3, 1)}, {("a", (HALF,)): (-1, 1)})
        self.assertEqual(lines, ["flag a", "name a 3", "call a 1/2 = -1"])

    def test_calls_of_one_two_and_three(self):
        calls = {("f", (ONE,)): (2, 1), ("f", (ONE, HALF)): (3, 1), ("f", (ONE, HALF, (-2, 3))): (4, 7),
                 ("f", (ZERO,)): (5, 1)}
        self.assertEqual(self.lines({}, {}, calls), [
            "call f 0 = 5", "call f 1 = 2", "call f 1 1/2 = 3", "call f 1 1/2 -2/3 = 4/7"])

    def test_the_order(self):
        flags = {"q": True, "ab": True, "b": True, "pqrstuvw": True}
        values = {"z": ONE, "a": HALF, "aa": ONE}
        # By Python's order: the tops ahead of the bottoms, as numbers.
        calls = {("g", ((-1, 1),)): ONE, ("f", ((10, 1),)): ONE, ("f", ((2, 1),)): ONE, ("f", ((1, 3),)): ONE,
                 ("f", ((1, 2),)): ONE, ("f", ((1, 2), (0, 1))): ONE, ("f", ((-3, 1),)): ONE, ("ab", ((9, 1),)): ONE}
        self.assertEqual(self.lines(flags, values, calls), [
            "flag ab", "flag b", "flag pqrstuvw", "flag q", "name a 1/2", "name aa 1", "name z 1", "call ab 9 = 1",
            "call f -3 = 1", "call f 1/2 = 1", "call f 1/2 0 = 1", "call f 1/3 = 1", "call f 2 = 1", "call f 10 = 1",
            "call g -1 = 1"])

    def test_long_fractions(self):
        self.assertEqual(self.lines({}, {"a": (-LONG, 2)}, {}), [f"name a -{LONG}/2"])

    def test_by_chance(self):
        chance = random.Random(88)

        def number():
            return fraction(chance.randint(-5, 5), chance.randint(1, 4))

        def word():
            return "".join(chance.choices("abc", k=chance.randint(1, 2)))

        for turn in range(100):
            many = chance.randint(0, 20)
            calls = {(word(), tuple([number() for each in range(chance.randint(1, 3))])): number() for at in range(many)}
            lines = self.lines({word(): chance.random() < 0.5 for at in range(many)},
                               {word(): number() for at in range(many)}, calls)
            chance.shuffle(lines)
            self.assertEqual(sorted(world_lines(read_world(lines))), sorted(lines))

    def test_what_is_told_is_the_askers_own(self):
        world = ({"p": True}, {}, {})
        world_lines(world).clear()
        self.assertEqual(world_lines(world), ["flag p"])


class Read(unittest.TestCase):
    def refused(self, lines, at):
        before = list(lines)
        with self.assertRaises(NoText) as caught:
            read_world(lines)
        self.assertEqual(caught.exception.at, at)
        self.assertIs(type(caught.exception.at), int)
        self.assertEqual(lines, before)

    def test_no_lines(self):
        self.assertEqual(read_world([]), ({}, {}, {}))

    def test_any_order(self):
        lines = ["call f 2 = 1", "name b 1/2", "flag q", "name a -1", "call f 1 = 3", "flag p"]
        world = ({"q": True, "p": True}, {"b": HALF, "a": (-1, 1)}, {("f", ((2, 1),)): ONE, ("f", (ONE,)): (3, 1)})
        self.assertEqual(read_world(lines), world)
        self.assertEqual(read_world(lines[::-1]), world)
        self.assertIs(is_world(read_world(lines)), True)

    def test_a_value_0(self):
        self.assertEqual(read_world(["name a 0", "call f 0 = 0"]), ({}, {"a": ZERO}, {("f", (ZERO,)): ZERO}))

    def test_told_twice(self):
        self.refused(["flag p", "flag p"], 1)
        self.refused(["name a 1", "flag a", "name a 1"], 2)
        self.refused(["name a 0", "name b 1", "call a 1 = 1", "name a 1"], 3)
        self.refused(["name a 1", "name a 0", "name a"], 1)
        self.refused(["call f 1 2 = 3", "call f 1 = 3", "call f 1 2 = 4"], 2)

    def test_alike_but_not_twice(self):
        read_world(["flag a", "name a 1", "call a 1 = 1", "call a 1 1 = 1", "call a 1/2 = 1", "call b 1 = 1", "flag b"])

    def test_lines_that_tell_nothing(self):
        for line in (
                "", " ", "flag", "name", "call", "p", "flag p q", "flag p 1", "flag p = 1", "flags p", "Flag p", "flag P",
                "flag p1", "flag 1", "flag abcdefghi", "flag  p", " flag p", "flag p ", "flag\tp", "flag p\n", "flag ",
                "name a", "name a b", "name a 1 2", "name a = 1", "name 1 a", "name a  1", "name a 1 ", "name  a 1",
                "name abcdefghi 1", "name a 4/2", "name a 3/1", "name a -0", "name a 01", "name a +1", "name a 1/0",
                "name a 1/-2", "name a 0/1", "name a 1.5", "name a ", "name a =", "nam a 1", "name A 1", "NAME a 1",
                "call f", "call f = 1", "call f 1", "call f 1 =", "call f 1 2", "call f 1 = 2 ", "call f 1  = 2",
                "call f 1 = 2 3", "call f 1 2 3 4 = 5", "call f 1 == 2", "call f 1 = = 2", "call f 1 = 2 = 3",
                "call f = 1 = 2", "call f 2/2 = 1", "call f 1 = 2/2", "call f a = 1", "call f 1 = a", "call = 1 = 2",
                "call abcdefghi 1 = 1", "call f 1=2", "call f 1 2 3", "call f 1 2 3 =", "call f (1) = 2", "1 = 2",
                "call f , 1 = 2", "call 1 1 = 2", "calls f 1 = 2", "name f 1 = 2", "flag f 1 = 2", "f f 1 = 2", "call f 1 = -0", "call f 00 = 1"):
            with self.subTest(line):
                self.refused([line], 0)
                self.refused(["flag z", "name z 1", line, "what"], 2)

    def test_names_as_long_as_may_be(self):
        self.assertEqual(read_world(["flag abcdefgh", "name abcdefgh 1"]), ({"abcdefgh": True}, {"abcdefgh": ONE}, {}))

    def test_what_is_told_is_the_askers_own(self):
        lines = ["flag p", "name a 1", "call f 1 = 1"]
        for part in read_world(lines):
            part.clear()
        self.assertEqual(read_world(lines), ({"p": True}, {"a": ONE}, {("f", (ONE,)): ONE}))


if __name__ == "__main__":
    unittest.main()
