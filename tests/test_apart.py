import copy
import random
import unittest

from plain import A, B, C, HALF, ONE, ZERO, call
from smallword.apart import apart
from smallword.fractions import fraction, sign_of
from smallword.leastsums import least_places
from smallword.sums import less_sum, sum_of, sum_times
from smallword.weighing import added, bears, meets, weighed
from test_weighing import DEEP, RING, some_bounds, terms_of, value_at

UP, DOWN = ((A, ONE),), ((A, (-1, 1)),)
ALIKE = [(less_sum(A, B), ZERO, False), (less_sum(B, A), ZERO, False)]


def is_level(bounds, pairs):
    """Whether a sum is 0 at all numbers that meet bounds, told by what can be weighed."""
    turned = sum_times(pairs, (-1, 1))
    return all([weighed(bounds + [(less, ZERO, True)])[0] == "weights" for less in (pairs, turned)])


class Apart(unittest.TestCase):
    def looked_over(self, bounds, sums):
        """What apart tells, once it is looked over."""
        before = copy.deepcopy((bounds, sums))
        told = apart(bounds, sums)
        self.assertEqual((bounds, sums), before)
        self.assertIs(type(told), tuple)
        if told[0] == "no":
            self.assertIs(bears(bounds, told[1]), True)
            self.assertEqual(len(told), 2)
        elif told[0] == "level":
            kind, place, under, over = told
            self.weights_looked_over(bounds, under, sums[place])
            self.weights_looked_over(bounds, over, sum_times(sums[place], (-1, 1)))
            self.assertFalse(any(is_level(bounds, pairs) for pairs in sums[:place]))
        else:
            kind, numbers = told
            self.assertEqual(kind, "numbers")
            self.assertIs(meets(bounds, numbers), True)
            self.assertNotIn(ZERO, [value_at(pairs, numbers) for pairs in sums])
            self.assertEqual(sorted(numbers), terms_of([pairs for pairs, bound, strict in bounds] + sums))
        return told

    def weights_looked_over(self, bounds, weights, pairs):
        self.assertIs(type(weights), list)
        self.assertEqual(added(bounds, weights), (pairs, ZERO))
        places = [place for place, weight in weights]
        self.assertEqual(places, sorted(set(places)))
        self.assertTrue(all(sign_of(weight) == 1 for place, weight in weights))

    def test_no_sums(self):
        self.assertEqual(self.looked_over([], []), ("numbers", {}))
        self.assertEqual(self.looked_over([(UP, ONE, True)], [])[0], "numbers")

    def test_no_bounds(self):
        every = [less_sum(A, B), less_sum(B, C), less_sum(A, C), UP, ((B, ONE),), ((A, ONE), (B, ONE), (C, (-2, 1)))]
        self.assertEqual(self.looked_over([], every)[0], "numbers")
        self.assertEqual(self.looked_over([], every + [()]), ("level", len(every), [], []))

    def test_a_sum_of_nothing(self):
        for bounds in ([], ALIKE, [(UP, ZERO, True)]):
            self.assertEqual(self.looked_over(bounds, [UP, ()])[:4], ("level", 1, [], []))
            self.assertEqual(self.looked_over(bounds, [(), ()]), ("level", 0, [], []))

    def test_level(self):
        self.assertEqual(self.looked_over(ALIKE, [less_sum(A, B)]), ("level", 0, [(0, ONE)], [(1, ONE)]))
        self.assertEqual(self.looked_over(ALIKE, [sum_times(less_sum(B, A), HALF)]),
                         ("level", 0, [(1, HALF)], [(0, HALF)]))
        self.assertEqual(self.looked_over(RING, [less_sum(C, B)])[:2], ("level", 0))
        self.assertEqual(self.looked_over([(UP, ZERO, False), (DOWN, ZERO, False)], [((B, ONE),), UP, DOWN])[:2],
                         ("level", 1))
        # Zero by the sum of two that are both from 0 on.
        bounds = [(DOWN, ZERO, False), (((B, (-1, 1)),), ZERO, False), (((A, ONE), (B, ONE)), ZERO, False)]
        for pairs in (UP, ((B, ONE),), less_sum(A, B), ((A, ONE), (B, ONE))):
            self.assertEqual(self.looked_over(bounds, [((C, ONE),), pairs])[:2], ("level", 1))

    def test_the_least_of_several(self):
        sums = [((A, ONE), (C, ONE)), less_sum(B, C), less_sum(A, B), less_sum(B, A), ()]
        self.assertEqual(self.looked_over(ALIKE, sums)[:2], ("level", 2))
        self.assertEqual(self.looked_over(ALIKE, [less_sum(B, A)] + sums)[:2], ("level", 0))
        self.assertEqual(self.looked_over(ALIKE, sums[:2])[0], "numbers")

    def test_equal_to_a_number_is_not_level(self):
        for number in (1, -1):
            bounds = [(UP, (number, 3), False), (DOWN, (-number, 3), False)]
            self.assertEqual(self.looked_over(bounds, [UP, DOWN])[0], "numbers")

    def test_0_on_the_rim_alone(self):
        for bounds in ([(UP, ZERO, False)], [(UP, ZERO, True)], [(DOWN, ZERO, False)], [(DOWN, ZERO, True)],
                       [(DOWN, ZERO, False), (UP, (1, 1000000), True)]):
            self.assertEqual(self.looked_over(bounds, [UP, sum_times(UP, (-3, 2))])[0], "numbers")

    def test_boxes_far_from_0(self):
        terms = [("name", name) for name in "abcdef"]
        sums = [less_sum(one, other) for place, one in enumerate(terms) for other in terms[:place]]
        for low, high in ((1, 2), (-2, -1), (999998, 999999)):
            for strict in (True, False):
                upper = [(((term, ONE),), (high, 1), strict) for term in terms]
                lower = [(((term, (-1, 1)),), (-low, 1), strict) for term in terms]
                for bounds in (upper + lower, lower + upper, upper, lower):
                    self.assertEqual(self.looked_over(bounds, sums)[0], "numbers")

    def test_no_sum_becomes_0_on_the_way_of_another_one(self):
        # c is 1, and a may go from 0 up, to 1 or for ever: so a less some parts of c is 0 on its way.
        fixed = [(((C, ONE),), ONE, False), (((C, (-1, 1)),), (-1, 1), False), (DOWN, ZERO, False)]
        others = [sum_of([(A, ONE), (C, fraction(-top, bottom))]) for top in (1, 2, 3) for bottom in (1, 2, 3, 4, 5)]
        for bounds in (fixed, fixed + [(UP, ONE, False)], fixed + [(UP, ONE, True)], fixed + [(UP, (3, 1), True)]):
            for sums in ([UP] + others, others + [UP], others[::-1] + [DOWN]):
                self.assertEqual(self.looked_over(bounds, sums)[0], "numbers")

    def test_terms_that_no_bound_has(self):
        told = self.looked_over([(UP, ONE, False)], [less_sum(A, B), less_sum(B, C), ((DEEP, ONE),), ((C, ONE),)])
        self.assertEqual(told[0], "numbers")

    def test_no_numbers_at_all(self):
        for bounds in ([(UP, ZERO, False), (DOWN, ZERO, True)], [((), (-1, 1), False)], [((), ZERO, True)]):
            for sums in ([], [()], [UP], [less_sum(A, B), ((C, ONE),)]):
                self.assertEqual(self.looked_over(bounds, sums)[0], "no")

    def test_all_differences_of_thirteen_terms(self):
        terms = [("name", name) for name in "abcdefghijkl"] + [call("f", A)]
        sums = [less_sum(one, other) for place, one in enumerate(terms) for other in terms[:place]]
        box = [(((term, (sign, 1)),), (1, 1000), sign > 0) for term in terms for sign in (1, -1)]
        self.assertEqual(self.looked_over(box, sums)[0], "numbers")
        chain = [(less_sum(one, other), ZERO, False) for one, other in zip(terms, terms[1:])]
        self.assertEqual(self.looked_over(box + chain, sums)[0], "numbers")
        chain.append((less_sum(terms[9], terms[4]), ZERO, False))
        # The least is b less a where a and b are the first two of those that the ring holds together.
        self.assertEqual(sums[self.looked_over(box + chain, sums)[1]], less_sum(terms[5], terms[4]))

    def test_by_chance(self):
        chance = random.Random(54)
        kinds = {"no": 0, "level": 0, "numbers": 0}
        for turn in range(200):
            terms = [("name", name) for name in "abcdefghijkl"[:chance.randint(1, 8)]]
            bounds = some_bounds(chance, chance.randint(0, 20), terms, chance.choice([1, 3, 20]))
            sums = []
            for each in range(chance.randint(0, 80 if turn % 20 == 0 else 8)):
                pairs = less_sum(chance.choice(terms), chance.choice(terms + [("name", "z")]))
                if bounds and chance.random() < 0.3:
                    pairs = sum_times(chance.choice(bounds)[0], fraction(chance.randint(1, 4), 3))
                sums += [pairs] if pairs != () or chance.random() < 0.1 else []
            kinds[self.looked_over(bounds, sums)[0]] += 1
        self.assertGreater(min(kinds.values()), 10)

    def test_what_is_told_is_the_askers_own(self):
        for weights in apart(ALIKE, [less_sum(A, B)])[2:]:
            weights.clear()
        self.assertEqual(apart(ALIKE, [less_sum(A, B)]), ("level", 0, [(0, ONE)], [(1, ONE)]))


class Least(unittest.TestCase):
    def looked_over(self, bounds):
        """What least_places tells, once it is looked over."""
        before = copy.deepcopy(bounds)
        places = least_places(bounds)
        self.assertEqual(bounds, before)
        if places is None:
            self.assertEqual(weighed(bounds)[0], "numbers")
            return None
        self.assertIs(type(places), list)
        self.assertEqual(places, sorted(set(places)))
        self.assertEqual(weighed([bounds[place] for place in places])[0], "weights")
        for struck in places:
            self.assertEqual(weighed([bounds[place] for place in places if place != struck])[0], "numbers")
        return places

    def test_that_numbers_meet(self):
        for bounds in ([], [(UP, ZERO, True)], RING, ALIKE, [((), ZERO, False)]):
            self.assertIsNone(self.looked_over(bounds))

    def test_one_alone(self):
        for no in (((), (-1, 1), False), ((), (-1, 1), True), ((), ZERO, True)):
            self.assertEqual(self.looked_over([no]), [0])
            self.assertEqual(self.looked_over([(UP, ZERO, True), no, (((B, ONE),), ZERO, True)]), [1])

    def test_two_and_three(self):
        self.assertEqual(self.looked_over([(((B, ONE),), ONE, True), (UP, ZERO, True), (DOWN, ZERO, False)]), [1, 2])
        strict = [RING[0], (UP, (9, 1), True), RING[1], (RING[2][0], ZERO, True)]
        self.assertEqual(self.looked_over(strict), [0, 2, 3])

    def test_one_bound_twice(self):
        for bounds in ([(UP, ZERO, True), (UP, ZERO, True), (DOWN, ZERO, False)], [((), (-1, 1), False)] * 3):
            self.assertIsNotNone(self.looked_over(bounds))

    def test_by_chance(self):
        chance = random.Random(55)
        told = []
        for turn in range(150):
            terms = [("name", name) for name in "abcdefghijkl"[:chance.randint(1, 12)]]
            bounds = some_bounds(chance, chance.randint(1, 50), terms, chance.choice([1, 3, 20]))
            told.append(self.looked_over(bounds))
        self.assertGreater(len([places for places in told if places is not None]), 30)
        self.assertGreater(len([places for places in told if places is None]), 30)

    def test_what_is_told_is_the_askers_own(self):
        bounds = [(UP, ZERO, True), (DOWN, ZERO, False)]
        least_places(bounds).clear()
        self.assertEqual(least_places(bounds), [0, 1])


if __name__ == "__main__":
    unittest.main()
