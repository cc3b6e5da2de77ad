import copy
import random
import unittest

from plain import A, B, C, HALF, ONE, ZERO, call
from smallword.fractions import fraction, plus, times
from smallword.sums import less_sum, sum_of
from smallword.weighing import added, bears, meets, weighed

FA, FB = call("f", A), call("f", B)
DEEP = call("f", call("g", call("f", call("g", call("f", A, B), C))), A)
UP, DOWN = ((A, ONE),), ((A, (-1, 1)),)
RING = [(less_sum(A, B), ZERO, False), (less_sum(B, C), ZERO, False), (less_sum(C, A), ZERO, False)]


def terms_of(sums):
    return sorted({term for pairs in sums for term, share in pairs})


def value_at(pairs, numbers):
    total = ZERO
    for term, share in pairs:
        total = plus(total, times(share, numbers.get(term, ZERO)))
    return total


def some_bounds(chance, many, terms, size):
    """Bounds round a point that all or most of them leave free."""
    point = {term: fraction(chance.randint(-9, 9), chance.randint(1, 5)) for term in terms}
    way = chance.choice(["just", "near", "far", "wild"])
    bounds = []
    for each in range(many):
        some = [term for term in terms if chance.random() < 0.6]
        pairs = sum_of([(term, fraction(chance.randint(-size, size), chance.randint(1, size))) for term in some])
        more = {"just": 0, "near": chance.randint(0, 1), "far": chance.randint(0, 9), "wild": chance.randint(-1, 20)}[way]
        bounds.append((pairs, plus(value_at(pairs, point), (more, 1)), chance.random() < 0.3 and way != "just"))
    return bounds


class Weighing(unittest.TestCase):
    def looked_over(self, bounds):
        """What weighed tells, once it is looked over."""
        before = copy.deepcopy(bounds)
        told = weighed(bounds)
        self.assertEqual(bounds, before)
        self.assertIs(type(told), tuple)
        kind, found = told
        if kind == "numbers":
            self.assertIs(meets(bounds, found), True)
            self.assertEqual(sorted(found), terms_of([pairs for pairs, bound, strict in bounds]))
        else:
            self.assertEqual(kind, "weights")
            self.assertIs(type(found), list)
            self.assertIs(bears(bounds, found), True)
        found.clear()
        self.assertEqual(bounds, before)
        return kind


class Meets(unittest.TestCase):
    def test_no_bounds(self):
        self.assertIs(meets([], {}), True)
        self.assertIs(meets([], {A: ONE}), True)

    def test_one_bound(self):
        for value, strict, met in ((-1, False, True), (0, False, True), (1, False, False),
                                   (-1, True, True), (0, True, False), (1, True, False)):
            self.assertIs(meets([(UP, ONE, strict)], {A: plus((value, 1), ONE)}), met)

    def test_a_term_that_is_not_there_counts_as_0(self):
        self.assertIs(meets([(UP, ZERO, False)], {}), True)
        self.assertIs(meets([(UP, ZERO, True)], {B: (-1, 1)}), False)
        self.assertIs(meets([(((A, ONE), (B, (-2, 1))), (-1, 1), False)], {B: HALF}), True)
        self.assertIs(meets([(((A, ONE), (B, (-2, 1))), (-1, 1), False)], {A: ONE}), False)

    def test_sums_of_nothing(self):
        for bound, strict, met in ((HALF, False, True), (HALF, True, True), (ZERO, False, True), (ZERO, True, False),
                                   ((-1, 2), False, False), ((-1, 2), True, False)):
            self.assertIs(meets([((), bound, strict)], {}), met)

    def test_each_bound_has_to_hold(self):
        bounds = [(UP, ONE, False), (DOWN, ZERO, False), (((A, ONE), (B, ONE)), HALF, True)]
        self.assertIs(meets(bounds, {A: HALF, B: (-1, 9)}), True)
        for numbers in ({A: (3, 2), B: (-9, 1)}, {A: (-1, 9)}, {A: HALF}):
            self.assertIs(meets(bounds, numbers), False)

    def test_a_call_is_a_term_like_any_other(self):
        bounds = [(less_sum(FA, FB), (-1, 1), False)]
        self.assertIs(meets(bounds, {FA: ONE, FB: (2, 1), A: ZERO, B: ZERO}), True)
        self.assertIs(meets(bounds, {A: ONE, B: (2, 1)}), False)

    def test_nothing_handed_in_is_changed(self):
        bounds, numbers = [(UP, ONE, False), ((), ZERO, True)], {B: ONE}
        meets(bounds, numbers)
        self.assertEqual((bounds, numbers), ([(UP, ONE, False), ((), ZERO, True)], {B: ONE}))


class Added(unittest.TestCase):
    bounds = [(((A, ONE), (B, HALF)), (3, 1), False), (((A, (-1, 1)), (C, ONE)), (-1, 2), True), ((), (5, 1), False)]

    def test_sum_and_total(self):
        self.assertEqual(added(self.bounds, []), ((), ZERO))
        self.assertEqual(added(self.bounds, [(0, ONE)]), self.bounds[0][:2])
        self.assertEqual(added(self.bounds, [(0, (2, 1)), (1, (2, 1))]), (((B, ONE), (C, (2, 1))), (5, 1)))
        self.assertEqual(added(self.bounds, [(0, HALF), (2, (1, 10))]), (((A, HALF), (B, (1, 4))), (2, 1)))

    def test_weights_of_any_sort(self):
        self.assertEqual(added(self.bounds, [(1, (2, 1)), (0, (2, 1))]), (((B, ONE), (C, (2, 1))), (5, 1)))
        self.assertEqual(added(self.bounds, [(0, ONE), (0, (-1, 1))]), ((), ZERO))
        self.assertEqual(added(self.bounds, [(0, HALF), (0, HALF)]), self.bounds[0][:2])
        self.assertEqual(added(self.bounds, [(0, ZERO), (1, (-1, 1))]), (((A, ONE), (C, (-1, 1))), HALF))


class Bears(unittest.TestCase):
    def test_totals(self):
        for total, strict, borne in (((-1, 9), False, True), ((-1, 9), True, True), (ZERO, False, False),
                                     (ZERO, True, True), ((1, 9), False, False), ((1, 9), True, False)):
            bounds = [(UP, ONE, False), (DOWN, plus(total, (-1, 1)), strict), (UP, (-9, 1), True)]
            self.assertIs(bears(bounds, [(0, ONE), (1, ONE)]), borne)
            self.assertIs(bears(bounds, [(0, (2, 7)), (1, (2, 7))]), borne)

    def test_a_strict_bound_without_a_weight_tells_nothing(self):
        bounds = [(UP, ONE, False), (DOWN, (-1, 1), False), (((B, ONE),), ZERO, True)]
        self.assertIs(bears(bounds, [(0, ONE), (1, ONE)]), False)

    def test_sums_that_are_left(self):
        bounds = [(UP, (-1, 1), False), (DOWN, ZERO, False), (((B, ONE),), (-1, 1), True)]
        self.assertIs(bears(bounds, [(0, ONE), (1, ONE)]), True)
        for weights in ([(0, ONE)], [(2, ONE)], [(0, ONE), (1, HALF)], [(0, ONE), (1, ONE), (2, ONE)]):
            self.assertIs(bears(bounds, weights), False)

    def test_no_weights(self):
        self.assertIs(bears([], []), False)
        self.assertIs(bears([((), (-1, 1), True)], []), False)

    def test_places_not_rising_or_twice(self):
        bounds = [(UP, (-1, 1), False), (DOWN, ZERO, False)]
        for weights in ([(1, ONE), (0, ONE)], [(0, HALF), (0, HALF), (1, ONE)], [(0, ONE), (1, HALF), (1, HALF)],
                        [(0, HALF), (1, ONE), (0, HALF)]):
            self.assertEqual(added(bounds, weights), ((), (-1, 1)))
            self.assertIs(bears(bounds, weights), False)

    def test_fractions_0_and_below(self):
        bounds = [(UP, (-1, 1), False), (DOWN, ZERO, False), ((), ONE, True), ((), ZERO, False)]
        for weights in ([(2, (-1, 1))], [(0, ONE), (1, ONE), (2, ZERO)], [(0, ONE), (1, ONE), (2, (-1, 9))],
                        [(0, (-1, 1)), (1, (-1, 1))], [(3, ZERO)], [(0, ONE), (1, ONE), (3, ZERO)]):
            self.assertIs(bears(bounds, weights), False)

    def test_three_in_a_ring(self):
        self.assertIs(bears(RING, [(0, ONE), (1, ONE), (2, ONE)]), False)
        for strict in range(3):
            bounds = [(pairs, bound, place == strict) for place, (pairs, bound, no) in enumerate(RING)]
            self.assertIs(bears(bounds, [(0, ONE), (1, ONE), (2, ONE)]), True)
            self.assertIs(bears(bounds, [(0, ONE), (1, ONE), (2, (2, 1))]), False)


class Weighed(Weighing):
    def test_no_bounds(self):
        self.assertEqual(weighed([]), ("numbers", {}))

    def test_sums_of_nothing(self):
        for bound, strict, kind in ((HALF, False, "numbers"), (HALF, True, "numbers"), (ZERO, False, "numbers"),
                                    (ZERO, True, "weights"), ((-1, 2), False, "weights"), ((-1, 2), True, "weights")):
            self.assertEqual(self.looked_over([((), bound, strict)]), kind)
            self.assertEqual(self.looked_over([(UP, ZERO, False), ((), bound, strict)]), kind)

    def test_two_bounds(self):
        for gap, one, other, kind in ((1, True, True, "numbers"), (0, False, False, "numbers"), (0, True, False, "weights"),
                                      (0, False, True, "weights"), (-1, False, False, "weights")):
            self.assertEqual(self.looked_over([(UP, (gap, 7), one) if gap else (UP, ZERO, one), (DOWN, ZERO, other)]), kind)

    def test_ring(self):
        self.assertEqual(self.looked_over(RING), "numbers")
        for strict in range(3):
            bounds = [(pairs, bound, place == strict) for place, (pairs, bound, no) in enumerate(RING)]
            self.assertEqual(self.looked_over(bounds), "weights")
            bounds = [(pairs, (-1, 9) if place == strict else bound, no) for place, (pairs, bound, no) in enumerate(RING)]
            self.assertEqual(self.looked_over(bounds), "weights")
            self.assertEqual(self.looked_over(bounds[:2]), "numbers")

    def test_one_bound_twice(self):
        for strict in (True, False):
            self.assertEqual(self.looked_over([(UP, (-3, 2), strict)] * 2), "numbers")
            self.assertEqual(self.looked_over([(UP, (-3, 2), strict)] * 3 + [(DOWN, ONE, True)] * 2), "weights")

    def test_all_strict(self):
        terms = [("name", name) for name in "abcdefghijkl"]
        # a is below b, b below c and so on, all of them between 0 and 1/1000.
        bounds = [(less_sum(one, other), ZERO, True) for one, other in zip(terms, terms[1:])]
        bounds += [(((terms[-1], ONE),), (1, 1000), True), (((terms[0], (-1, 1)),), ZERO, True)]
        self.assertEqual(self.looked_over(bounds), "numbers")
        self.assertEqual(self.looked_over(bounds + [(less_sum(terms[-1], terms[0]), ZERO, False)]), "weights")

    def test_calls_however_deep(self):
        bounds = [(less_sum(DEEP, A), ZERO, False), (less_sum(A, FA), ZERO, True), (((FA, ONE), (DEEP, (-1, 1))), ONE, True)]
        bounds = [(sum_of(list(pairs)), bound, strict) for pairs, bound, strict in bounds]
        self.assertEqual(self.looked_over(bounds), "numbers")
        self.assertEqual(self.looked_over(bounds + [(less_sum(FA, DEEP), ZERO, False)]), "weights")

    def test_circles(self):
        for asked, bounds, value in CIRCLES:
            above = (tuple([(term, times(share, (-1, 1))) for term, share in asked]), times(value, (-1, 1)), False)
            self.assertEqual(self.looked_over(bounds), "numbers")
            self.assertEqual(self.looked_over(bounds + [above]), "numbers")
            self.assertEqual(self.looked_over(bounds + [above[:2] + (True,)]), "weights")
            self.assertEqual(self.looked_over([above] + bounds[::-1]), "numbers")
            self.assertEqual(self.looked_over([above[:2] + (True,)] + bounds[::-1]), "weights")

    def test_by_chance(self):
        chance = random.Random(52)
        kinds = {"numbers": 0, "weights": 0}
        for turn in range(300):
            terms = [("name", name) for name in "abcdefghijkl"[:chance.randint(1, 12)]]
            bounds = some_bounds(chance, chance.randint(1, 50), terms, chance.choice([1, 3, 20]))
            kinds[self.looked_over(bounds)] += 1
        self.assertGreater(min(kinds.values()), 60)

    def test_six_figures(self):
        chance = random.Random(53)
        terms = [("name", name) for name in "abcdefghijkl"]
        for turn in range(3):
            bounds = []
            for each in range(50):
                pairs = sum_of([(term, fraction(chance.randint(-999999, 999999), chance.randint(1, 999999)))
                                for term in chance.sample(terms, 4)])
                bounds.append((pairs, fraction(chance.randint(-99999, 999999), chance.randint(1, 999999)), turn == 1))
            self.looked_over(bounds)

    def test_small_numbers_over_two_terms(self):
        # The corners that by chance hardly come; what numbers meet is found among quarters alone.
        shares = [(-1, 1), ZERO, ONE]
        every = [(sum_of([(A, one), (B, other)]), (bound, 1), strict) for one in shares for other in shares
                 for bound in (-1, 0) for strict in (True, False)]
        quarters = [fraction(number, 4) for number in range(-14, 15)]
        points = [{A: one, B: other} for one in quarters for other in quarters]
        chance = random.Random(54)
        for turn in range(60):
            bounds = chance.sample(every, chance.randint(1, 5))
            met = any(meets(bounds, point) for point in points)
            self.assertEqual(self.looked_over(bounds), "numbers" if met else "weights")


def named(**shares):
    return sum_of([(("name", name), share) for name, share in shares.items()])


def from_0(*names):
    return [(((("name", name), (-1, 1)),), ZERO, False) for name in names]


# Sums, bounds and the sum's highest value under them, on which careless turns go round in a circle.
CIRCLES = [
    (named(a=(3, 4), b=(-20, 1), c=HALF, d=(-6, 1)),
     from_0("a", "b", "c", "d") + [(named(a=(1, 4), b=(-8, 1), c=(-1, 1), d=(9, 1)), ZERO, False),
                                   (named(a=HALF, b=(-12, 1), c=(-1, 2), d=(3, 1)), ZERO, False),
                                   (named(c=ONE), ONE, False)], (5, 4)),
    (named(a=(10, 1), b=(-57, 1), c=(-9, 1), d=(-24, 1)),
     from_0("a", "b", "c", "d") + [(named(a=HALF, b=(-11, 2), c=(-5, 2), d=(9, 1)), ZERO, False),
                                   (named(a=HALF, b=(-3, 2), c=(-1, 2), d=ONE), ZERO, False),
                                   (named(a=ONE), ONE, False)], ONE),
    (named(a=(3, 4), b=(-150, 1), c=(1, 50), d=(-6, 1)),
     from_0("a", "b", "c", "d") + [(named(a=(1, 4), b=(-60, 1), c=(-1, 25), d=(9, 1)), ZERO, False),
                                   (named(a=HALF, b=(-90, 1), c=(-1, 50), d=(3, 1)), ZERO, False),
                                   (named(c=ONE), ONE, False)], (1, 20)),
]


if __name__ == "__main__":
    unittest.main()
