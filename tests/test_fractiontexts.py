import unittest

from smallword.fractiontexts import fraction_in, fraction_text

BOTH_WAYS = [
    ((3, 1), "3"), ((-1, 2), "-1/2"), ((0, 1), "0"), ((-7, 1), "-7"), ((10, 3), "10/3"), ((1, 10), "1/10"),
    ((100, 1), "100"), ((10 ** 59 + 1, 10 ** 59), "1" + "0" * 58 + "1/1" + "0" * 59),
    ((10 ** 63, 1), "1" + "0" * 63), ((10 ** 64, 1), "1" + "0" * 64), ((-(10 ** 64) + 1, 1), "-" + "9" * 64),
    ((10 ** 128 + 3, 10 ** 64), "1" + "0" * 127 + "3/1" + "0" * 64), ((1, 10 ** 200 - 1), "1/" + "9" * 200),
]

NO_FRACTIONS = [
    "4/2", "3/1", "-0", "01", "+1", "", "-", "/", "-/", "1/", "/2", "-/2", "1/0", "0/1", "0/5", "-0/5", "1/02", "00",
    "-01", "--1", "1-", "1/-2", "-1/-2", "1//2", "1/2/3", "1/2/", "/1/2", " 1", "1 ", "1 /2", "1/ 2", "1.5", "1e3",
    "1_0", "a", "1a", "a1", "1/a", "(1", "1)", "1\n", "\n1", "1\t", "+1/2", "1/+2", "2/4", "-6/4", "0x1", "~", "1,0",
    "\u0661", "\u00b2", "None",
]


class Texts(unittest.TestCase):
    def test_both_ways(self):
        for one, text in BOTH_WAYS:
            with self.subTest(text):
                self.assertEqual(fraction_text(one), text)
                self.assertEqual(fraction_in(text), one)

    def test_no_fractions(self):
        for text in NO_FRACTIONS:
            with self.subTest(text):
                self.assertIsNone(fraction_in(text))

    def test_a_sign_too_many_at_any_place(self):
        for text in ("12", "-12", "12/35", "-12/35", "0"):
            for at in range(len(text) + 1):
                for sign in " +-/.,()a~":
                    spoilt = text[:at] + sign + text[at:]
                    if spoilt in ("-12", "-12/35", "1/2", "-1/2"):
                        continue
                    with self.subTest(spoilt):
                        self.assertIsNone(fraction_in(spoilt))

    def test_numbers_of_very_many_figures(self):
        text = "7" * 9000
        self.assertEqual(fraction_text(fraction_in(text)), text)
        self.assertEqual(fraction_text((10 ** 9000, 1)), "1" + "0" * 9000)
        self.assertEqual(fraction_in("-1" + "0" * 9000), (-(10 ** 9000), 1))
        self.assertIsNone(fraction_in("0" + text))
        self.assertIsNone(fraction_in(text + "/7"))

    def test_what_is_told_is_a_fraction(self):
        told = fraction_in("-1/2")
        self.assertIs(type(told), tuple)
        self.assertEqual([type(part) for part in told], [int, int])

    def test_each_small_fraction(self):
        seen = {}
        for top in range(-30, 31):
            for bottom in range(0, 31):
                text = f"{top}/{bottom}"
                told = fraction_in(text)
                if told is not None:
                    self.assertEqual(told, (top, bottom))
                    self.assertEqual(fraction_text(told), text)
                    seen[told] = True
        self.assertIn((-7, 30), seen)
        self.assertNotIn((2, 4), seen)
        self.assertNotIn((2, 1), seen)


if __name__ == "__main__":
    unittest.main()
