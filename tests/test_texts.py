import re
import random
import unittest

from plain import A, B, C, HALF, ONE, ZERO, call
from smallword.errors import NoText
from smallword.fractiontexts import fraction_in
from smallword.reading import read_term, read_wish
from smallword.showing import shown_term, shown_wish
from smallword.wishes import above, at_least, at_most, below, equal

P, Q = ("flag", "p"), ("flag", "q")
FA = call("f", A)
HEADS = ["not", "all", "any", "like", "most", "least", "below", "above", "equal"]

TERMS = [
    (A, "a"), (("name", "abcdefgh"), "abcdefgh"), (FA, "(f a)"), (call("f", A, B, C), "(f a b c)"),
    (call("f", FA, call("g", FA, B)), "(f (f a) (g (f a) b))"), (call("not", ("name", "all")), "(not all)"),
    (call("fx", ("name", "ax"), ("name", "xx")), "(fx ax xx)"),
]
WISHES = [
    (P, "p"), (("not", P), "(not p)"), (("not", ("not", P)), "(not (not p))"),
    (("both", ()), "(all)"), (("both", (P,)), "(all p)"), (("both", (P, Q, P)), "(all p q p)"),
    (("either", ()), "(any)"), (("either", (P, ("both", ()))), "(any p (all))"),
    (("not", ("either", ())), "(not (any))"), (("both", (("either", ()), Q)), "(all (any) q)"),
    (("like", A, FA), "(like a (f a))"), (("like", call("f", A, B, C), A), "(like (f a b c) a)"),
    (("most", (), (3, 1)), "(most 3)"), (("most", (), ZERO), "(most 0)"),
    (("most", ((A, (-1, 2)),), (3, 4)), "(most -1/2 a 3/4)"),
    (("most", ((FA, ONE), (A, HALF)), (-2, 1)), "(most 1 (f a) 1/2 a -2)"),
    (("both", (("most", ((call("f", FA), ONE),), ZERO), P)), "(all (most 1 (f (f a)) 0) p)"),
]


def some_term(chance, depth):
    name = chance.choice(["a", "b", "c", "not", "most", "abcdefgh"])
    if depth == 0 or chance.random() < 0.5:
        return ("name", name)
    return ("call", name, tuple(some_term(chance, depth - 1) for each in range(chance.randint(1, 3))))


def some_fraction(chance):
    return fraction_in(chance.choice(["0", "1", "-1", "1/2", "-7/3", "12", "-10/99"]))


def some_wish(chance, depth):
    kind = chance.choice(["flag", "like", "most"] + ["not", "both", "either"] * (2 if depth else 0))
    if kind == "flag":
        return ("flag", chance.choice(["p", "q", "not", "all", "equal"]))
    if kind == "like":
        return ("like", some_term(chance, 2), some_term(chance, 2))
    if kind == "most":
        pairs = [(some_term(chance, 2), some_fraction(chance)) for each in range(chance.randint(0, 3))]
        return at_most(pairs, some_fraction(chance))
    if kind == "not":
        return ("not", some_wish(chance, depth - 1))
    return (kind, tuple(some_wish(chance, depth - 1) for each in range(chance.randint(0, 3))))


class Other:
    """Another reader, which goes down the forms of texts sign by sign and tells only where one is wrong."""

    def __init__(self, text):
        self.words = text.split(" ")
        self.signs = []
        self.deep = 0
        for at, word in enumerate(self.words):
            form = re.fullmatch(r"(\(?)([^()]+)(\)*)", word, re.DOTALL)
            if form is None or not (self.is_name(form[2]) or fraction_in(form[2])):
                self.signs.append((at, "?"))
            else:
                self.signs += [(at, sign) for sign in [form[1], form[2]] if sign] + [(at, ")") for each in form[3]]

    def is_name(self, text):
        return re.fullmatch(r"[a-z]{1,8}", text) is not None

    def wrong_at(self, want):
        try:
            self.wish() if want == "wish" else self.term()
        except NoText as wrong:
            return wrong.at
        return self.signs[0][0] if self.signs else None

    def ahead(self):
        return self.signs[0][1] if self.signs else None

    def take(self, fits):
        if not self.signs:
            raise NoText(len(self.words))
        at, sign = self.signs.pop(0)
        if not fits(sign):
            raise NoText(at)
        return at, sign

    def begin(self):
        at, sign = self.take(lambda sign: sign == "(")
        self.deep += 1
        if self.deep > 30:
            raise NoText(at)

    def end(self):
        self.take(lambda sign: sign == ")")
        self.deep -= 1

    def term(self):
        if self.ahead() != "(":
            return self.take(self.is_name)
        self.begin()
        self.take(self.is_name)
        self.term()
        for more in range(2):
            if self.ahead() not in (")", None):
                self.term()
        self.end()

    def wish(self):
        if self.ahead() != "(":
            return self.take(self.is_name)
        self.begin()
        at, head = self.take(lambda sign: sign in HEADS)
        if head == "not":
            self.wish()
        elif head == "like":
            self.term()
            self.term()
        elif head in ("all", "any"):
            while self.ahead() not in (")", None):
                self.wish()
        else:
            self.take(fraction_in)
            while self.ahead() != ")":
                self.term()
                self.take(fraction_in)
        self.end()


class Shown(unittest.TestCase):
    def test_both_ways(self):
        for term, text in TERMS:
            with self.subTest(text):
                self.assertEqual(shown_term(term), text)
                self.assertEqual(read_term(text), term)
        for wish, text in WISHES:
            with self.subTest(text):
                self.assertEqual(shown_wish(wish), text)
                self.assertEqual(read_wish(text), wish)

    def test_names_that_are_words_of_texts(self):
        for word in HEADS:
            with self.subTest(word):
                name, function = ("name", word), ("call", word, (("name", word), ("name", word)))
                for wish in (("flag", word), ("not", ("flag", word)), ("both", (("flag", word),)),
                             ("like", name, function), ("most", ((function, ONE), (name, HALF)), ONE)):
                    self.assertEqual(read_wish(shown_wish(wish)), wish)
                for term in (name, function):
                    self.assertEqual(read_term(shown_term(term)), term)

    def test_twenty_within_one_another(self):
        wish, term = ("like", A, FA), A
        for turn in range(20):
            wish = [("not", wish), ("both", (P, wish)), ("either", (wish, Q))][turn % 3]
            term = call("f", B, term)
        self.assertEqual(read_wish(shown_wish(wish)), wish)
        self.assertEqual(read_term(shown_term(term)), term)

    def test_many_wishes(self):
        chance = random.Random(2)
        for turn in range(400):
            wish, term = some_wish(chance, 4), some_term(chance, 4)
            self.assertEqual(read_wish(shown_wish(wish)), wish)
            self.assertEqual(read_term(shown_term(term)), term)

    def test_long_texts_and_numbers(self):
        flags = ("both", tuple(("flag", "abcdefg") for turn in range(2500)))
        self.assertEqual(read_wish(shown_wish(flags)), flags)
        great = ("most", ((A, (10 ** 199, 10 ** 200 - 1)),), (-10 ** 199, 3))
        self.assertEqual(read_wish(shown_wish(great)), great)


class OtherWays(unittest.TestCase):
    def test_five_words(self):
        makers = {"most": at_most, "least": at_least, "below": below, "above": above, "equal": equal}
        cases = [
            ("3", [], (3, 1)), ("1 a 2", [(A, ONE)], (2, 1)), ("1 b 1/2 a 0", [(B, ONE), (A, HALF)], ZERO),
            ("1 a 1 a -1", [(A, ONE), (A, ONE)], (-1, 1)), ("0 a 5", [(A, ZERO)], (5, 1)),
            ("1 a -1 a 1/2 (f a) 0 b 7/3", [(FA, HALF)], (7, 3)),
        ]
        for word, make in makers.items():
            for text, pairs, bound in cases:
                with self.subTest(word, text=text):
                    self.assertEqual(read_wish(f"({word} {text})"), make(pairs, bound))
                    self.assertEqual(read_wish(f"(not ({word} {text}))"), ("not", make(pairs, bound)))

    def test_written_results(self):
        self.assertEqual(read_wish("(least 1 b 2 a 3)"), ("most", ((A, (-2, 1)), (B, (-1, 1))), (-3, 1)))
        self.assertEqual(read_wish("(below 1 a 3)"), ("not", ("most", ((A, (-1, 1)),), (-3, 1))))
        self.assertEqual(read_wish("(above 1 a 3)"), ("not", ("most", ((A, ONE),), (3, 1))))
        self.assertEqual(
            read_wish("(equal 1 a 0)"), ("both", (("most", ((A, ONE),), ZERO), ("most", ((A, (-1, 1)),), ZERO))))
        self.assertEqual(read_wish("(most 1 b 1 a 1 b 0 c 4)"), ("most", ((A, ONE), (B, (2, 1))), (4, 1)))


NO_WISHES = [
    # empty words, and words of no right form
    ("", 0), (" ", 0), (" p", 0), ("p ", 1), ("(all  p)", 1), ("(all p )", 2), ("(all p  q)", 2), ("(", 0), (")", 0),
    ("()", 0), ("( all)", 0), ("((all))", 0), ("((all p) q)", 0), ("(all ((not p)))", 1), ("(not p(q)", 1),
    ("(not(p))", 0), ("p(", 0), ("(all)(all)", 0), ("(all p)q", 1), ("(all p)q)", 1), ("P", 0), ("p1", 0), ("p.", 0),
    ("p\n", 0), ("(all\tp)", 0), ("(all p\nq)", 1), ("(not -p)", 1), ("(all p ~)", 2), ("abcdefghi", 0),
    ("(all p abcdefghi)", 2), ("(like a abcdefghi)", 2), ("(like (abcdefghi a) b)", 1), ("\u00e9", 0),
    # where a wish must come
    ("3", 0), ("-1/2", 0), ("(3)", 0), ("(p)", 0), ("(p q)", 0), ("(not 1)", 1), ("(not (f a))", 1), ("(all p 3)", 2),
    ("(all p (both q))", 2), ("(flag p)", 0), ("(All)", 0), ("(either p)", 0),
    # where a term must come
    ("(like 1 a)", 1), ("(like a 2)", 2), ("(like a (1 b))", 2), ("(like (f 1) b)", 2), ("(most 1 2 3)", 2),
    ("(most 1 1/2)", 2), ("(most 1 (2 a) 3)", 2),
    # where a fraction must come
    ("(most a)", 1), ("(most a 1 2)", 1), ("(most (1 a) 2)", 1), ("(most 1 a b)", 3), ("(most 1 a (2 b) 3)", 3),
    ("(least 4/2 a 1)", 1), ("(most 3/1)", 1), ("(most 1 a -0)", 3), ("(most 01)", 1), ("(most +1)", 1),
    ("(most 1/0)", 1), ("(most 1 a 2/4)", 3), ("(most 1 a 1/-2)", 3), ("(most 1 a p)", 3), ("(most (f a) 1)", 1),
    # a ) too many or too early
    ("p)", 0), ("(all))", 0), ("(not p))", 1), ("(all p (any)))", 2), ("(most 3))", 1), ("(not)", 0), ("(like)", 0),
    ("(like a)", 1), ("(most)", 0), ("(equal)", 0), ("(most 1 a)", 2), ("(most 1 (f a))", 3), ("(most 1 (f) 2)", 2),
    ("(like (f) a)", 1), ("(like a (f a)))", 3), ("(like (f a)) b)", 2), ("(not (not))", 1), ("(not (like a))", 2),
    # a word behind the end, or where there may be no more
    ("p q", 1), ("p (all)", 1), ("(all) p", 1), ("(not p) 3", 2), ("(not p q)", 2), ("(not p (all))", 2),
    ("(not (all) q)", 2), ("(like a b c)", 3), ("(like a b (f c))", 3), ("(like (f a b c d) a)", 5),
    ("(like (f a b c (g d)) a)", 5), ("(like (f (f a b c d) b) a)", 6), ("(most 3) 4", 2), ("p  ", 1),
    # more must come
    ("(not", 1), ("(all", 1), ("(all p", 2), ("(any p (all)", 3), ("(like", 1), ("(like a", 2), ("(like a b", 3),
    ("(most", 1), ("(most 1", 2), ("(most 1 a", 3), ("(most 1 a 2", 4), ("(like (f a b c", 5), ("(like (f a b c)", 5),
    ("(not (not p)", 3), ("(not p", 2), ("(equal 1 (f a", 4),
]
NO_TERMS = [
    ("", 0), (" a", 0), ("a ", 1), ("1", 0), ("A", 0), ("abcdefghi", 0), ("a b", 1), ("a)", 0), ("(f)", 0), ("(f a))", 1),
    ("(f", 1), ("(f a", 2), ("(f a b c", 4), ("(f a b c d)", 4), ("(f a b c d", 4), ("(f a (g)", 2), ("(f 1)", 1),
    ("(1 a)", 0), ("(f (g a)", 3), ("((f a)", 0), ("(f a(b)", 1), ("(f a) b", 2), ("(f  a)", 1), ("(all)", 0),
    ("(not a b c d)", 4), ("(f a (g a b c (h a)))", 6),
]


class Refused(unittest.TestCase):
    def wrong_at(self, read, text):
        with self.assertRaises(NoText) as caught:
            read(text)
        self.assertIs(type(caught.exception.at), int)
        return caught.exception.at

    def test_no_wishes(self):
        for text, at in NO_WISHES:
            with self.subTest(text):
                self.assertEqual(self.wrong_at(read_wish, text), at)

    def test_no_terms(self):
        for text, at in NO_TERMS:
            with self.subTest(text):
                self.assertEqual(self.wrong_at(read_term, text), at)

    def test_brackets_open_at_once(self):
        self.assertEqual(read_wish("(not " * 29 + "(all" + ")" * 30)[0], "not")
        self.assertEqual(read_wish("(not " * 30 + "p" + ")" * 30)[0], "not")
        self.assertEqual(self.wrong_at(read_wish, "(not " * 30 + "(all" + ")" * 31), 30)
        self.assertEqual(self.wrong_at(read_wish, "(not " * 31 + "p" + ")" * 31), 30)
        self.assertEqual(self.wrong_at(read_wish, "(not " * 40), 30)
        self.assertEqual(read_term("(f " * 30 + "a" + ")" * 30)[0], "call")
        self.assertEqual(self.wrong_at(read_term, "(f " * 31 + "a" + ")" * 31), 30)
        mixed = "(not " * 28 + "(like a (f b" + ")" * 30
        self.assertEqual(read_wish(mixed)[0], "not")
        self.assertEqual(self.wrong_at(read_wish, "(not " * 29 + "(like a (f b" + ")" * 31), 31)
        closed = "(not " * 28 + "(all (any) (any p) (most 1 a 0)" + ")" * 29
        self.assertEqual(read_wish(closed)[0], "not")

    def test_first_wrong_word_counts(self):
        self.assertEqual(self.wrong_at(read_wish, "(all P 3 (x"), 1)
        self.assertEqual(self.wrong_at(read_wish, "(not p q) r)"), 2)

    def test_spoilt_texts_against_another_reader(self):
        chance = random.Random(3)
        signs = "() ap1/-0~N\n"
        refused = 0
        for turn in range(6000):
            want = ("wish", "term")[turn % 2]
            text = shown_wish(some_wish(chance, 3)) if want == "wish" else shown_term(some_term(chance, 3))
            for each in range(chance.randint(0, 3)):
                at = chance.randint(0, len(text))
                text = text[:at] + chance.choice(["", chance.choice(signs)]) + text[at + chance.randint(0, 1):]
            if chance.random() < 0.3:
                words = text.split(" ")
                words.insert(chance.randint(0, len(words)), words.pop(chance.randrange(len(words))))
                text = " ".join(words)
            wrong = Other(text).wrong_at(want)
            read = read_wish if want == "wish" else read_term
            with self.subTest(text):
                if wrong is None:
                    read(text)
                else:
                    refused += 1
                    self.assertEqual(self.wrong_at(read, text), wrong)
        self.assertGreater(refused, 2000)


if __name__ == "__main__":
    unittest.main()
