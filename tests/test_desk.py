import random
import unittest

from plain import A, B
from smallword.checker import lets_by
from smallword.deciding import decided
from smallword.desk import Desk
from smallword.errors import NoAnswer, NoLevel, NoLine, NoPaper, NoText
from smallword.papertexts import read_paper
from smallword.reading import read_wish
from smallword.showing import shown_wish
from smallword.worldlines import read_world, world_lines
from smallword.worlds import keeps
from somewishes import some_atoms, some_wish

P = ("flag", "p")
PAPER = "wish 0\nwish 1\nresolve 0 1 p"


def desk_of(*rows):
    desk = Desk()
    for row in rows:
        desk.say(row)
    return desk


def state(desk):
    """All that a desk stands for, told without changing it."""
    wishes = desk.say("list")
    level = int(desk.say("push")) - 1
    desk.say("pop")
    return wishes, level, desk.say("ask")


class Rows(unittest.TestCase):
    def say(self, desk, row):
        told = desk.say(row)
        self.assertIs(type(told), str)
        return told

    def refused(self, desk, row, kind):
        """The refusal of a row, by which nothing changes."""
        before = state(desk)
        with self.assertRaises(kind) as caught:
            desk.say(row)
        self.assertIs(type(caught.exception), kind)
        self.assertEqual(state(desk), before, row)
        return caught.exception

    def test_a_new_desk(self):
        self.assertEqual(state(Desk()), ("", 0, "yes"))
        self.assertEqual(self.say(Desk(), "world"), "")

    def test_put(self):
        desk = Desk()
        wishes = ["p", "(all)", "(like a (f b))", "(most 1/2 a 3)", "(not (any p q))"]
        self.assertEqual([self.say(desk, "put " + wish) for wish in wishes], ["0", "1", "2", "3", "4"])
        self.assertEqual(self.say(desk, "list"), "\n".join(wishes))
        self.assertEqual(self.say(desk, "put (equal 1 a 1 a 0 b 3)"), "5")
        self.assertEqual(self.say(desk, "list").split("\n")[5], "(all (most 2 a 3) (most -2 a -3))")

    def test_put_of_no_wish(self):
        desk = desk_of("put p", "push", "put (not p)")
        for text, at in (("", 0), (" p", 0), ("p ", 1), ("p q", 1), ("(not p", 2), ("(like a)", 1), ("P", 0), ("(no p)", 0),
                         ("(most 4/2 a 3)", 1), ("abcdefghi", 0), ("put p", 1), ("()", 0)):
            self.assertEqual(self.refused(desk, "put " + text, NoText).at, at, text)
        self.assertEqual(self.say(desk, "put q"), "2")

    def test_push_and_pop(self):
        desk = Desk()
        self.assertEqual([self.say(desk, row) for row in ("push", "push", "pop", "push", "pop", "pop")],
                         ["1", "2", "1", "2", "1", "0"])
        self.refused(desk, "pop", NoLevel)
        desk = desk_of("put p", "push", "put q", "push", "put r")
        self.assertEqual(self.say(desk, "list"), "p\nq\nr")
        self.assertEqual(self.say(desk, "pop"), "1")
        self.assertEqual(self.say(desk, "list"), "p\nq")
        self.assertEqual(self.say(desk, "put s"), "2")
        self.assertEqual(self.say(desk, "pop"), "0")
        self.assertEqual(self.say(desk, "list"), "p")
        self.refused(desk, "pop", NoLevel)

    def test_ask_world_and_paper(self):
        desk = desk_of("put p", "put (most -1 a -1)")
        self.assertEqual(self.say(desk, "ask"), "yes")
        lines = self.say(desk, "world").split("\n")
        self.assertIs(keeps([P, read_wish("(most -1 a -1)")], read_world(lines)), True)
        self.assertEqual(world_lines(read_world(lines)), lines)
        self.refused(desk, "paper", NoAnswer)
        self.refused(desk, "reason", NoAnswer)
        desk.say("push")
        desk.say("put (not p)")
        self.assertEqual(self.say(desk, "ask"), "no")
        paper = read_paper(self.say(desk, "paper").split("\n"))
        self.assertIs(lets_by([P, read_wish("(most -1 a -1)"), ("not", P)], paper), True)
        self.assertEqual(self.say(desk, "reason"), "0 2")
        self.refused(desk, "world", NoAnswer)
        desk.say("pop")
        self.assertEqual(self.say(desk, "ask"), "yes")
        self.refused(desk, "paper", NoAnswer)

    def test_a_reason_of_one(self):
        self.assertEqual(self.say(desk_of("put q", "put (any)", "put p"), "reason"), "1")

    def test_numbers_of_two_figures_rise_as_numbers(self):
        desk = desk_of(*["put q"] * 9, "put (any p q)", "put (any p (not q))", *["put (all)"] * 89, "put (any (not p) q)",
                       "put (any (not p) (not q))")
        numbers = self.say(desk, "reason").split(" ")
        self.assertEqual(numbers, [str(number) for number in sorted([int(number) for number in numbers])])
        self.assertEqual(numbers[-1], "101")
        self.assertEqual(self.say(desk_of(*["put p"] * 12), "keeps\n"), "0 1 2 3 4 5 6 7 8 9 10 11")
        self.assertEqual(self.say(desk_of("put p", *["put (all)"] * 8, "put p", "put p"), "keeps\n"), "0 9 10")

    def test_check(self):
        desk = desk_of("put p", "put (not p)")
        self.assertEqual(self.say(desk, "check\n" + PAPER), "lets by")
        self.assertEqual(self.say(desk, "check\n" + self.say(desk, "paper")), "lets by")
        for lines in ("", "wish 0", "wish 0\nwish 1", "wish 7", "resolve 0 1 p", "wish 1\nwish 0\nresolve 0 1 p",
                      PAPER + "\nwish 0", "self a"):
            self.assertEqual(self.say(desk, "check\n" + lines), "not")
        self.assertEqual(self.say(Desk(), "check\n" + PAPER), "not")
        self.assertEqual(self.say(desk_of("put (not p)", "put p"), "check\n" + PAPER), "not")

    def test_check_of_no_paper(self):
        desk = desk_of("put p", "put (not p)")
        for lines, place in (("\n", 0), ("wish 0\n", 1), ("\nwish 0", 0), ("wish 0\n\nwish 1", 1), (" ", 0), ("wish", 0),
                             (PAPER + "\n", 3), ("wish 0 ", 0), ("wish 0\nwish 01", 1), ("wish 0\nput p", 1),
                             ("self a\nself (least 1 a 0)", 1)):
            self.assertEqual(self.refused(desk, "check\n" + lines, NoPaper).place, place)

    def test_keeps(self):
        desk = desk_of("put p", "put (like a (f a))", "put (not (most 1 b 0))", "put (all)")
        self.assertEqual(self.say(desk, "keeps\n"), "0 2")
        self.assertEqual(self.say(desk, "keeps\nflag p"), "2")
        self.assertEqual(self.say(desk, "keeps\nname a 1\nname b 1/2"), "0 1")
        self.assertEqual(self.say(desk, "keeps\nname a 1\nname b 1/2\ncall f 1 = 1\nflag p"), "")
        self.assertEqual(self.say(desk, "keeps\n" + self.say(desk, "world")), "")
        self.assertEqual(self.say(Desk(), "keeps\nflag p"), "")

    def test_keeps_of_no_world(self):
        desk = desk_of("put p")
        for lines, at in (("\n", 0), ("flag p\n", 1), ("\nflag p", 0), ("flag p\n\nflag q", 1), ("flag p\nflag p", 1),
                          (" ", 0), ("flag", 0), ("name a 4/2", 0), ("flag p ", 0)):
            self.assertEqual(self.refused(desk, "keeps\n" + lines, NoText).at, at)

    def test_rows_that_are_none(self):
        desk = desk_of("put p", "push", "put (not p)")
        words = ["push", "pop", "list", "ask", "world", "paper", "reason"]
        rows = [word + more for word in words for more in (" ", "\n", " p", "\np", "s", "\n\n", "\t")]
        rows += [" " + word for word in words] + [word.upper() for word in words] + ["\n" + word for word in words]
        rows += ["", " ", "\n", "put", "put\n", "put\np", "Put p", "putp", " put p", "puts p", "check", "keeps", "check ",
                 "keeps ", "check " + PAPER, "keeps flag p", "check wish 0\nwish 1", "keeps \nflag p", "check \n", "p",
                 "checks\n", "Check\n", "keep\n", "level", "wishes", "quit", "ask ask", "push pop", "put p\n", "put p\nput q"]
        for row in rows:
            with self.subTest(row):
                self.refused(desk, row, NoLine)

    def test_two_desks(self):
        one, other = desk_of("put p", "push"), Desk()
        self.assertEqual(other.say("put (not p)"), "0")
        self.assertEqual(state(one), ("p", 1, "yes"))
        self.assertEqual(state(other), ("(not p)", 0, "yes"))

    def test_by_chance(self):
        chance = random.Random(89)
        kinds = {"yes": 0, "no": 0}
        for turn in range(40):
            atoms = some_atoms(chance, 2, 3, 3)
            wishes = [some_wish(chance, atoms, 2) for each in range(chance.randint(1, 6))]
            desk = desk_of(*["put " + shown_wish(wish) for wish in wishes])
            kind = self.say(desk, "ask")
            kinds[kind] += 1
            self.assertEqual(kind, decided(wishes)[0])
            if kind == "yes":
                self.assertEqual(self.say(desk, "keeps\n" + self.say(desk, "world")), "")
                continue
            self.assertEqual(self.say(desk, "check\n" + self.say(desk, "paper")), "lets by")
            numbers = [int(number) for number in self.say(desk, "reason").split(" ")]
            self.assertEqual(decided([wishes[number] for number in numbers])[0], "no")
        self.assertGreater(min(kinds.values()), 8)


class Names(unittest.TestCase):
    def test_texts_of_terms_in_wishes(self):
        desk = desk_of("put (like a b)", "put (not (like (f a) (f b)))")
        self.assertEqual(desk.say("reason"), "0 1")
        self.assertEqual(read_wish(desk.say("list").split("\n")[0]), ("like", A, B))


if __name__ == "__main__":
    unittest.main()
