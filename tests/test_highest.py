import copy
import random
import unittest

from plain import A, B, C, HALF, ONE, ZERO, call
from smallword.fractions import fraction, is_less, plus, sign_of
from smallword.highest import highest
from smallword.sums import less_sum, sum_of, sum_plus
from smallword.weighing import added, bears, meets, weighed
from test_weighing import CIRCLES, DEEP, some_bounds, terms_of, value_at

UP, DOWN = ((A, ONE),), ((A, (-1, 1)),)
AB = ((A, ONE), (B, ONE))


class Highest(unittest.TestCase):
    def looked_over(self, bounds, asked):
        """What highest tells, once it is looked over."""
        before = copy.deepcopy((bounds, asked))
        told = highest(bounds, asked)
        self.assertEqual((bounds, asked), before)
        self.assertIs(type(told), tuple)
        terms = terms_of([pairs for pairs, bound, strict in bounds] + [asked])
        if told[0] == "no":
            self.assertEqual(len(told), 2)
            self.assertIs(bears(bounds, told[1]), True)
        elif told[0] == "open":
            kind, numbers, way = told
            self.assertIs(meets(bounds, numbers), True)
            self.assertTrue(all(sign_of(value_at(pairs, way)) <= 0 for pairs, bound, strict in bounds))
            self.assertEqual(sign_of(value_at(asked, way)), 1)
            self.assertEqual((sorted(numbers), sorted(way)), (terms, terms))
        else:
            self.highest_looked_over(bounds, asked, told, terms)
        return told

    def highest_looked_over(self, bounds, asked, told, terms):
        kind, value, weights, numbers, reached = told
        self.assertEqual(kind, "highest")
        self.assertIs(type(weights), list)
        self.assertEqual(added(bounds, weights), (asked, value))
        places = [place for place, weight in weights]
        self.assertEqual(places, sorted(set(places)))
        self.assertTrue(all(sign_of(weight) == 1 for place, weight in weights))
        self.assertEqual(value_at(asked, numbers), value)
        self.assertEqual(sorted(numbers), terms)
        if reached:
            self.assertIs(reached, True)
            self.assertIs(meets(bounds, numbers), True)
        else:
            self.assertIs(reached, False)
            self.assertIs(meets([(pairs, bound, False) for pairs, bound, strict in bounds], numbers), True)
            self.assertTrue(any(bounds[place][2] for place in places))

    def value(self, bounds, asked):
        """The value and whether it is reached."""
        told = self.looked_over(bounds, asked)
        self.assertEqual(told[0], "highest")
        return told[1], told[4]

    def test_reached(self):
        self.assertEqual(self.value([(UP, (7, 2), False)], UP), ((7, 2), True))
        self.assertEqual(self.value([(UP, (7, 2), False)], ((A, (2, 3)),)), ((7, 3), True))
        self.assertEqual(self.value([(UP, ONE, False), (((B, HALF),), ONE, False)], AB), ((3, 1), True))
        self.assertEqual(self.value([(DOWN, (2, 1), False)], ((A, (-3, 1)),)), ((6, 1), True))
        corner = [(AB, (4, 1), False), (((A, ONE), (B, (3, 1))), (6, 1), False), (UP, (3, 1), False)]
        self.assertEqual(self.value(corner, ((A, (3, 1)), (B, (2, 1)))), ((11, 1), True))

    def test_strict_bounds_that_do_not_matter(self):
        bounds = [(UP, ONE, False), (UP, (2, 1), True), (DOWN, (5, 1), True), (((B, ONE),), ONE, True)]
        self.assertEqual(self.value(bounds, UP), (ONE, True))
        self.assertEqual(self.value([(less_sum(A, B), ZERO, True), (((B, ONE),), ONE, False)], ((B, ONE),)), (ONE, True))

    def test_not_reached(self):
        self.assertEqual(self.value([(UP, (7, 2), True)], UP), ((7, 2), False))
        self.assertEqual(self.value([(UP, ONE, True), (((B, HALF),), ONE, False)], AB), ((3, 1), False))
        self.assertEqual(self.value([(less_sum(A, B), ZERO, True), (((B, ONE),), ONE, False)], UP), (ONE, False))

    def test_two_bounds_of_one_value(self):
        for order in ((True, False), (False, True)):
            bounds = [(UP, ONE, strict) for strict in order]
            self.assertEqual(self.value(bounds, UP), (ONE, False))
        self.assertEqual(self.value([(UP, ONE, False)] * 3, UP), (ONE, True))

    def test_ways_that_go_on_for_ever(self):
        for bounds, asked in (([], UP), ([], DOWN), ([(DOWN, ONE, False)], UP), ([(UP, ONE, True)], DOWN),
                              ([(UP, ONE, False)], ((A, ONE), (B, ONE))), ([(UP, ONE, False)], ((B, (-2, 7)),)),
                              ([(less_sum(A, B), (-1, 1), True)], AB),
                              ([(less_sum(A, B), ZERO, False), (less_sum(B, A), ZERO, False)], UP),
                              ([((), ZERO, False)], ((call("f", A), ONE),))):
            self.assertEqual(self.looked_over(bounds, asked)[0], "open")

    def test_no_numbers_at_all(self):
        for bounds in ([(UP, ZERO, False), (DOWN, ZERO, True)], [((), (-1, 1), False)], [((), ZERO, True)]):
            for asked in ((), UP, DOWN, ((C, ONE),), AB):
                self.assertEqual(self.looked_over(bounds, asked)[0], "no")

    def test_asked_for_nothing(self):
        for bounds in ([], [(UP, ONE, True)], [((), ZERO, False)], [(less_sum(A, B), (-3, 2), True)]):
            told = self.looked_over(bounds, ())
            self.assertEqual((told[1], told[2], told[4]), (ZERO, [], True))

    def test_calls_however_deep(self):
        bounds = [(less_sum(DEEP, A), ZERO, False), (UP, (5, 3), False)]
        self.assertEqual(self.value(bounds, ((DEEP, ONE),)), ((5, 3), True))

    def test_circles(self):
        for asked, bounds, value in CIRCLES:
            for order in (bounds, bounds[::-1], bounds[3:] + bounds[:3]):
                self.assertEqual(self.value(order, asked), (value, True))

    def test_corners_in_their_worst_order(self):
        # From corner to corner of a bent cube there is a way through all of them.
        terms = [("name", name) for name in "abcdefgh"]
        bounds = []
        for number, term in enumerate(terms):
            pairs = [(other, (2 * 10 ** (number - place), 1)) for place, other in enumerate(terms[:number])]
            bounds.append((sum_of(pairs + [(term, ONE)]), (100 ** number, 1), False))
            bounds.append((((term, (-1, 1)),), ZERO, False))
        asked = sum_of([(term, (10 ** (7 - number), 1)) for number, term in enumerate(terms)])
        self.assertEqual(self.value(bounds, asked), ((100 ** 7, 1), True))

    def test_by_chance(self):
        chance = random.Random(531)
        kinds = {}
        for turn in range(300):
            terms = [("name", name) for name in "abcdefghijkl"[:chance.randint(1, 8)]]
            bounds = some_bounds(chance, chance.randint(0, 30), terms, chance.choice([1, 3, 20]))
            asked = self.some_asked(chance, bounds, terms + [("name", "z")])
            told = self.looked_over(bounds, asked)
            kind = told[0] + str(told[4]) if told[0] == "highest" else told[0]
            kinds[kind] = kinds.get(kind, 0) + 1
            self.assertEqual(told[0] == "no", weighed(bounds)[0] == "weights")
        self.assertEqual(sorted(kinds), ["highestFalse", "highestTrue", "no", "open"])
        self.assertGreater(min(kinds.values()), 15)

    def some_asked(self, chance, bounds, terms):
        asked = ()
        for place in chance.sample(range(len(bounds)), min(len(bounds), chance.randint(0, 4))):
            asked = sum_plus(asked, added(bounds, [(place, fraction(chance.randint(1, 5), chance.randint(1, 2)))])[0])
        if chance.random() < 0.3:
            asked = sum_plus(asked, ((chance.choice(terms), fraction(chance.randint(1, 9), 4)),))
        return asked

    def test_no_corner_has_more(self):
        chance = random.Random(532)
        points = [{A: (one, 2), B: (other, 2)} for one in range(-7, 8, 2) for other in range(-7, 8, 2)]
        for turn in range(40):
            bounds = some_bounds(chance, 6, [A, B], 3)
            asked = sum_of([(A, (chance.randint(-2, 2), 1)), (B, (chance.randint(-2, 2), 1))])
            told = self.looked_over(bounds, asked)
            for point in points:
                if told[0] == "highest" and meets(bounds, point):
                    self.assertIs(is_less(told[1], value_at(asked, point)), False)

    def test_what_is_told_is_the_askers_own(self):
        bounds = [(UP, ONE, False)]
        told = highest(bounds, UP)
        told[2].clear()
        told[3].clear()
        self.assertEqual(self.value(bounds, UP), (ONE, True))
        self.assertEqual(plus(highest(bounds, UP)[1], ONE), (2, 1))


if __name__ == "__main__":
    unittest.main()
