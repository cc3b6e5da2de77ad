import copy
import itertools
import unittest

from plain import A, B, C, HALF, NO_TUPLES, ONE, ZERO, call, spoilt
from smallword.sums import is_sum, less_sum, sum_of, sum_plus, sum_times

FA = call("f", A)
LONG = ((FA, (-1, 3)), (A, ONE), (B, HALF))


class Looked(unittest.TestCase):
    def test_sums(self):
        for thing in ((), ((A, ONE),), ((A, (-1, 2)), (B, ONE)), LONG, ((A, (2, 1)), (B, ONE), (C, (-9, 1)))):
            self.assertIs(is_sum(thing), True, thing)

    def test_no_sums(self):
        others = [
            ((B, ONE), (A, ONE)), ((A, ONE), (FA, ONE)), ((A, ONE), (A, ONE)), ((A, ONE), (A, (2, 1))),
            ((A, ZERO),), ((A, ONE), (B, ZERO)), ((A, (2, 4)),), ((A, (1, 0)),), ((A, (1, -1)),), (A, ONE),
            ((A,),), ((A, ONE, ONE),), ([A, ONE],), [(A, ONE)], ((["name", "a"], ONE),), ((A, [1, 1]),),
            ((A, (True, 1)),), ((A, (1, True)),), ((A, 1),), (("a", ONE),), ((ONE, A),), (None,), (1,), ("",), ((),),
            ((A, ONE), None), ((A, ONE), ()),
        ]
        for thing in others + NO_TUPLES:
            self.assertIs(is_sum(thing), False, repr(thing))

    def test_spoilt_within(self):
        for at, pair in enumerate(LONG):
            for other in spoilt(pair):
                thing = LONG[:at] + (other,) + LONG[at + 1:]
                self.assertIs(is_sum(thing), False, repr(thing))
        for order in itertools.permutations(LONG):
            self.assertIs(is_sum(order), order == LONG)


class Made(unittest.TestCase):
    def test_sum_of(self):
        cases = [
            ([], ()), ([(A, ZERO)], ()), ([(A, ONE)], ((A, ONE),)),
            ([(B, ONE), (A, HALF)], ((A, HALF), (B, ONE))),
            ([(A, ONE), (FA, ONE)], ((FA, ONE), (A, ONE))),
            ([(A, HALF), (B, ONE), (A, HALF)], ((A, ONE), (B, ONE))),
            ([(A, HALF), (A, (-1, 2))], ()),
            ([(A, ONE), (B, ONE), (A, (-2, 1)), (A, ONE)], ((B, ONE),)),
            ([(A, ZERO), (B, ZERO), (A, (1, 3)), (B, ZERO)], ((A, (1, 3)),)),
            ([(A, (1, 3)), (A, (1, 6)), (A, ZERO)], ((A, HALF),)),
        ]
        for pairs, told in cases:
            kept = copy.deepcopy(pairs)
            with self.subTest(pairs):
                self.assertEqual(sum_of(pairs), told)
                self.assertIs(is_sum(sum_of(pairs)), True)
                self.assertEqual(pairs, kept)

    def test_sum_of_in_any_order(self):
        pairs = [(A, HALF), (FA, ONE), (A, (1, 3)), (B, ZERO), (FA, (-1, 1))]
        for order in itertools.permutations(pairs):
            self.assertEqual(sum_of(list(order)), ((A, (5, 6)),))

    def test_sum_plus(self):
        self.assertEqual(sum_plus((), ()), ())
        self.assertEqual(sum_plus(LONG, ()), LONG)
        self.assertEqual(sum_plus((), LONG), LONG)
        self.assertEqual(sum_plus(((A, ONE), (B, HALF)), ((A, ONE), (C, ONE))), ((A, (2, 1)), (B, HALF), (C, ONE)))
        self.assertEqual(sum_plus(((A, ONE), (B, HALF)), ((A, (-1, 1)),)), ((B, HALF),))
        self.assertEqual(sum_plus(LONG, sum_times(LONG, (-1, 1))), ())

    def test_sum_times(self):
        self.assertEqual(sum_times(LONG, ONE), LONG)
        self.assertEqual(sum_times(LONG, ZERO), ())
        self.assertEqual(sum_times((), HALF), ())
        self.assertEqual(sum_times(LONG, (-3, 2)), ((FA, HALF), (A, (-3, 2)), (B, (-3, 4))))

    def test_less_sum(self):
        self.assertEqual(less_sum(A, B), ((A, ONE), (B, (-1, 1))))
        self.assertEqual(less_sum(B, A), ((A, (-1, 1)), (B, ONE)))
        self.assertEqual(less_sum(A, FA), ((FA, (-1, 1)), (A, ONE)))
        for term in (A, FA, call("f", FA, FA)):
            self.assertEqual(less_sum(term, term), ())

    def test_numbers_of_sixty_figures(self):
        great = 10 ** 60 - 1
        told = sum_of([(A, (1, great)), (A, (1, great - 1))])
        self.assertEqual(told, ((A, (2 * great - 1, great * (great - 1))),))


if __name__ == "__main__":
    unittest.main()
