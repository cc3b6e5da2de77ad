import copy
import random
import unittest

from plain import A, B, C, HALF, ONE, ZERO, call, some_paper
from smallword.checker import lets_by
from smallword.errors import NoPaper
from smallword.papertexts import read_paper, shown_paper, step_text

P, Q = ("flag", "p"), ("flag", "q")
FA = call("f", A, B)
MOST = ("most", ((A, HALF), (B, (-1, 1))), (-3, 4))
BOTH = ("both", (P, ("not", Q), MOST))
LONG = 10 ** 199 + 7

STEPS = [
    (("wish", 0), "wish 0"), (("wish", 10), "wish 10"), (("wish", LONG), "wish " + str(LONG)),
    (("open", BOTH, 0), "open 0 (all p (not q) (most 1/2 a -1 b -3/4))"), (("open", P, 12), "open 12 p"),
    (("open", ("either", ()), LONG), f"open {LONG} (any)"), (("open", ("flag", "wish"), 1), "open 1 wish"),
    (("resolve", 0, 0, P), "resolve 0 0 p"), (("resolve", 3, 21, ("like", A, FA)), "resolve 3 21 (like a (f a b))"),
    (("resolve", LONG, 0, ("both", ())), f"resolve {LONG} 0 (all)"),
    (("sum", ((MOST, True, ONE),)), "sum + 1 (most 1/2 a -1 b -3/4)"),
    (("sum", ((MOST, False, (22, 7)), (("most", (), ZERO), True, HALF))),
     "sum - 22/7 (most 1/2 a -1 b -3/4) ; + 1/2 (most 0)"),
    (("sum", ((("most", (), ZERO), True, (LONG, 3)),) * 3),
     f"sum + {LONG}/3 (most 0) ; + {LONG}/3 (most 0) ; + {LONG}/3 (most 0)"),
    (("self", A), "self a"), (("self", FA), "self (f a b)"), (("turn", A, B), "turn a ; b"),
    (("chain", (A, FA, C)), "chain a ; (f a b) ; c"), (("chain", (A, B, C, A, B)), "chain a ; b ; c ; a ; b"),
    (("calls", FA, call("f", C)), "calls (f a b) ; (f c)"), (("level", A, FA), "level a ; (f a b)"),
    (("meet", B, A), "meet b ; a"), (("meet", ("name", "meet"), ("name", "sum")), "meet meet ; sum"),
]

NO_LINES = [
    "", " ", "wish", "wish ", " wish 0", "wish 0 ", "wish  0", "Wish 0", "wish 00", "wish 01", "wish -1", "wish -0",
    "wish +1", "wish 1/2", "wish a", "wish 0 0", "wish 0;", "wish (0)", "wish 0\n", "wish\n0", "wish\t0", "wishes 0", "0",
    "p", "step 0", "not p", ";", "wish 0 ; 1", "wish 0;wish 1", "wish 0\nwish 1",
    "open", "open 0", "open 0 ", "open p", "open p 0", "open 0 p ", "open 0  p", "open  0 p", "open 00 p", "open 01 p",
    "open -1 p", "open 0 (not p)", "open 0 (not (not p))", "open 0 p q", "open 0 0 p", "open 0 P", "open 0 (all p",
    "open 0 (all p))", "open 0 (all  p)", "open 0 (least 1 a 0)", "open 0 (all (below 1 a 0))", "open 0 (equal 1 a 0)",
    "open 0 (most 1 b 1 a 0)", "open 0 (most 1 a 1 a 0)", "open 0 (most 0 a 0)", "open 0 (most 2/2 a 0)", "open 0 p;",
    "open 0 p ; q", "open 0 (all", "open 1/2 p",
    "resolve", "resolve 0", "resolve 0 1", "resolve 0 1 ", "resolve 0 p", "resolve 0 1 (not p)", "resolve 00 1 p",
    "resolve 0 01 p", "resolve 0  1 p", "resolve 0 1  p", "resolve 0 1 2 p", "resolve p 0 1", "resolve 0 1 p q",
    "resolve -1 0 p", "resolve 0 -1 p", "resolve 0 1 p ", "resolve 0 ; 1 p", "resolve 0 1 (above 1 a 0)",
    "sum", "sum ", "sum +", "sum + 1", "sum + 1 ", "sum 1 (most 0)", "sum (most 0)", "sum * 1 (most 0)",
    "sum ++ 1 (most 0)", "sum +1 (most 0)", "sum + 0 (most 0)", "sum + -1 (most 0)", "sum + 2/4 (most 0)",
    "sum + 3/1 (most 0)", "sum + 01 (most 0)", "sum + 1 p", "sum + 1 (not (most 0))", "sum + 1 (like a b)",
    "sum + 1 (least 0)", "sum + 1 (least 1 a 0)", "sum + 1 (most 1 b 1 a 0)", "sum + 1 (most 1 a 0", "sum + 1 (most 0) ",
    "sum + 1 (most 0) ;", "sum + 1 (most 0) ; ", "sum ; + 1 (most 0)", "sum + 1 (most 0) ; ; + 1 (most 0)",
    "sum + 1 (most 0); + 1 (most 0)", "sum + 1 (most 0) ;+ 1 (most 0)", "sum + 1 (most 0);+ 1 (most 0)",
    "sum + 1 (most 0)  ; + 1 (most 0)", "sum + 1 (most 0) ;  + 1 (most 0)", "sum + 1 (most 0) + 1 (most 0)",
    "sum  + 1 (most 0)", "sum +  1 (most 0)", "sum + 1  (most 0)", "sum True 1 (most 0)", "sum + 1 (most 00)",
    "self", "self ", "self a ", "self  a", "self A", "self a ; a", "self a b", "self (f)", "self (f a", "self (f a b c d)",
    "self p;", "self abcdefghi", "self 0",
    "turn", "turn a", "turn a b", "turn a ; b ; c", "turn a;b", "turn a; b", "turn a ;b", "turn a ; b ", "turn a ; b ;",
    "turn a  ; b", "turn a ;  b", "turn ; a ; b", "turn (f a ; b)", "calls a", "calls a ; b ; c", "level a",
    "level a ; b ; c", "meet a", "meet a ; b ; c", "meet a ; ", "meet ; ", "meet  ; ",
    "chain", "chain a", "chain a ; b", "chain a b c", "chain a ; b ; ", "chain a ; b ;", "chain a ; b; c", "chain ; ; ",
    "chain a ; b ; c ", "chain a ; b  ; c", "chain a ; (f a ; c", "chain a ; b ; c ; P",
]


class Written(unittest.TestCase):
    def test_each_kind(self):
        for step, text in STEPS:
            self.assertEqual(step_text(step), text)
        self.assertEqual(len({step[0] for step, text in STEPS}), 10)

    def test_papers(self):
        self.assertEqual(shown_paper([]), [])
        paper = [step for step, text in STEPS]
        before = copy.deepcopy(paper)
        lines = shown_paper(paper)
        self.assertEqual(lines, [text for step, text in STEPS])
        lines.clear()
        self.assertEqual(paper, before)


class Read(unittest.TestCase):
    def refuses(self, lines, place):
        before = list(lines)
        with self.subTest(lines):
            with self.assertRaises(NoPaper) as caught:
                read_paper(lines)
            self.assertEqual(caught.exception.place, place)
            self.assertEqual(lines, before)

    def test_each_kind(self):
        for step, text in STEPS:
            self.assertEqual(read_paper([text]), [step])
            self.assertEqual(repr(read_paper([text])), repr([step]))
        lines = [text for step, text in STEPS]
        self.assertEqual(read_paper(lines), [step for step, text in STEPS])
        self.assertEqual(lines, [text for step, text in STEPS])

    def test_no_lines(self):
        self.assertEqual(read_paper([]), [])
        self.assertIsNot(read_paper([]), read_paper([]))

    def test_no_step(self):
        for line in NO_LINES:
            self.refuses([line], 0)

    def test_numbers_with_a_0_ahead(self):
        for figures in ("0" + str(LONG), "00", "0" * 200):
            self.refuses(["wish " + figures], 0)
            self.refuses(["open " + figures + " p"], 0)
            self.refuses(["resolve 0 " + figures + " p"], 0)

    def test_the_first_line_that_writes_no_step(self):
        right = [text for step, text in STEPS]
        for wrong in ("", "wish 01", "open 0 (not p)", "chain a ; b"):
            for place in (0, 1, len(right) // 2, len(right)):
                self.refuses(right[:place] + [wrong] + right[place:], place)
                self.refuses(right[:place] + [wrong] + right[place:] + ["wish"], place)

    def test_what_is_not_right_is_read_all_the_same(self):
        self.assertEqual(read_paper(["resolve 7 9 p", "calls a ; b"]), [("resolve", 7, 9, P), ("calls", A, B)])

    def test_long_numbers(self):
        figures = "9" * 6000
        step = read_paper(["wish " + figures])[0]
        self.assertEqual(step_text(step), "wish " + figures)

    def test_brackets_up_to_thirty(self):
        for deep in (29, 30):
            line = "open 0 " + "(all " * deep + "p" + ")" * deep
            self.assertEqual(shown_paper(read_paper([line])), [line])
        self.refuses(["open 0 " + "(all " * 31 + "p" + ")" * 31], 0)

    def test_one_sign_changed_writes_no_step_or_another_one(self):
        signs = [chr(code) for code in range(32, 127) if chr(code) != "%"]
        for step, text in STEPS:
            if len(text) > 80:
                continue
            for at in range(len(text) + 1):
                for sign in signs:
                    self.other_step(step, text, text[:at] + sign + text[at:])
                    if at < len(text):
                        self.other_step(step, text, text[:at] + sign + text[at + 1:])
                self.other_step(step, text, text[:at] + text[at + 1:])

    def other_step(self, step, text, line):
        try:
            told = read_paper([line])
        except NoPaper as wrong:
            self.assertEqual(wrong.place, 0)
            return
        self.assertEqual(shown_paper(told), [line])
        self.assertEqual(told == [step], line == text)

    def test_papers_there_and_back(self):
        chance = random.Random(41)
        for turn in range(20):
            wishes, paper = some_paper(chance, [P, Q, ("like", A, FA), MOST])
            told = read_paper(shown_paper(paper))
            self.assertEqual(told, paper)
            self.assertIs(lets_by(wishes, told), True)


if __name__ == "__main__":
    unittest.main()
