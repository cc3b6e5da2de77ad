import math
import random
import unittest
from fractions import Fraction

from smallword.errors import NoShare
from smallword.fractions import contrary, fraction, is_less, minus, parted, plus, sign_of, times

SIXTY = 10 ** 59 + 7
OTHER_SIXTY = 9 * 10 ** 59 + 11


class Made(unittest.TestCase):
    def test_lowest_terms_and_bottom_from_1_on(self):
        cases = [
            ((3, 1), (3, 1)), ((4, 2), (2, 1)), ((-4, 6), (-2, 3)), ((4, -6), (-2, 3)), ((-4, -6), (2, 3)),
            ((0, 5), (0, 1)), ((0, -5), (0, 1)), ((0, 1), (0, 1)), ((7, 7), (1, 1)), ((7, -7), (-1, 1)),
            ((1, 2), (1, 2)), ((5, -1), (-5, 1)),
        ]
        for (top, bottom), told in cases:
            with self.subTest(top=top, bottom=bottom):
                self.assertEqual(fraction(top, bottom), told)

    def test_sixty_figures(self):
        shared = math.gcd(SIXTY, OTHER_SIXTY)
        self.assertEqual(fraction(SIXTY, OTHER_SIXTY), (SIXTY // shared, OTHER_SIXTY // shared))
        big = 3 ** 60 * 2 ** 80
        self.assertEqual(fraction(big * 5, big * 7), (5, 7))
        self.assertEqual(fraction(-2 ** 190, 2 ** 195), (-1, 32))
        self.assertEqual(fraction(2 ** 190, 3 ** 120), (2 ** 190, 3 ** 120))

    def test_kind(self):
        for made in (fraction(4, 2), plus((1, 2), (1, 2)), contrary((1, 2)), parted((1, 2), (-1, 3))):
            self.assertIs(type(made), tuple)
            self.assertEqual([type(part) for part in made], [int, int])

    def test_bottom_0_is_refused(self):
        for top in (0, 1, -1, SIXTY):
            with self.assertRaises(NoShare):
                fraction(top, 0)


class Reckoned(unittest.TestCase):
    def test_written_cases(self):
        self.assertEqual(plus((1, 2), (1, 3)), (5, 6))
        self.assertEqual(plus((1, 2), (-1, 2)), (0, 1))
        self.assertEqual(minus((1, 2), (1, 3)), (1, 6))
        self.assertEqual(minus((1, 3), (1, 2)), (-1, 6))
        self.assertEqual(times((2, 3), (3, 4)), (1, 2))
        self.assertEqual(times((2, 3), (0, 1)), (0, 1))
        self.assertEqual(parted((1, 2), (3, 4)), (2, 3))
        self.assertEqual(parted((1, 2), (-3, 4)), (-2, 3))
        self.assertEqual(parted((0, 1), (-3, 4)), (0, 1))
        self.assertEqual(contrary((1, 2)), (-1, 2))
        self.assertEqual(contrary((-1, 2)), (1, 2))
        self.assertEqual(contrary((0, 1)), (0, 1))

    def test_parted_by_0_is_refused(self):
        for one in ((0, 1), (1, 1), (-5, 3)):
            with self.assertRaises(NoShare):
                parted(one, (0, 1))

    def test_less_and_sign(self):
        self.assertIs(is_less((1, 3), (1, 2)), True)
        self.assertIs(is_less((1, 2), (1, 3)), False)
        self.assertIs(is_less((1, 2), (1, 2)), False)
        self.assertIs(is_less((-1, 2), (-1, 3)), True)
        self.assertIs(is_less((-1, 2), (0, 1)), True)
        for one, sign in (((-5, 2), -1), ((0, 1), 0), ((1, 9), 1)):
            self.assertEqual(sign_of(one), sign)
            self.assertIs(type(sign_of(one)), int)

    def test_each_two_small_ones(self):
        small = sorted({Fraction(top, bottom) for top in range(-6, 7) for bottom in range(1, 13)})
        for one in small:
            for other in small:
                pair = [part.as_integer_ratio() for part in (one, other)]
                self.assertEqual(plus(*pair), (one + other).as_integer_ratio())
                self.assertEqual(minus(*pair), (one - other).as_integer_ratio())
                self.assertEqual(times(*pair), (one * other).as_integer_ratio())
                self.assertIs(is_less(*pair), one < other)
                if other:
                    self.assertEqual(parted(*pair), (one / other).as_integer_ratio())

    def test_against_exact_reckoning(self):
        chance = random.Random(1)
        limits = (3, 12, 10 ** 6, 10 ** 60 - 1)
        for turn in range(600):
            limit = limits[turn % 4]
            one, other = [Fraction(chance.randint(-limit, limit), chance.randint(1, limit)) for each in "ab"]
            pair = [part.as_integer_ratio() for part in (one, other)]
            self.assertEqual(plus(*pair), (one + other).as_integer_ratio())
            self.assertEqual(minus(*pair), (one - other).as_integer_ratio())
            self.assertEqual(times(*pair), (one * other).as_integer_ratio())
            self.assertEqual(is_less(*pair), one < other)
            if other:
                self.assertEqual(parted(*pair), (one / other).as_integer_ratio())


if __name__ == "__main__":
    unittest.main()
