import copy
import itertools
import random
import unittest

from plain import A, B, C, HALF, ONE, ZERO, call, name, parts_plainly, some_term, within_calls
from smallword.checker import rows_by
from smallword.fractions import fraction
from smallword.sums import less_sum, sum_of
from smallword.together import together
from smallword.worlds import holds, is_world

D, E, F = name("d"), name("e"), name("f")
FA, FB, FC = call("f", A), call("f", B), call("f", C)
P, Q = ("flag", "p"), ("flag", "q")
MINUS = (-1, 1)


def like(one, other):
    return ("like", one, other)


def most(bound, *pairs):
    return ("most", sum_of(list(pairs)), bound)


def under(one, other):
    """That a term is at most as much as another one."""
    return ("most", less_sum(one, other), ZERO)


def yes(*atoms):
    return [(atom, True) for atom in atoms]


def no(*atoms):
    return [(atom, False) for atom in atoms]


class Together(unittest.TestCase):
    def looked_over(self, literals):
        """What is told of literals, "world" or "steps", once it is looked over; the same in other orders."""
        kinds = [self.looked_over_once(literals), self.looked_over_once(literals[::-1])]
        half = len(literals) // 2
        kinds.append(self.looked_over_once(literals[half:] + literals[:half]))
        self.assertEqual(kinds, kinds[:1] * 3)
        return kinds[0]

    def looked_over_once(self, literals):
        before = copy.deepcopy(literals)
        told = together(literals)
        self.assertEqual(literals, before)
        self.assertIs(type(told), tuple)
        kind, thing = told
        if kind == "world":
            self.assertIs(is_world(thing), True)
            self.assertEqual([holds(atom, thing) for atom, truth in literals], [truth for atom, truth in literals])
            return kind
        self.assertEqual(kind, "steps")
        self.assertIs(type(thing), list)
        self.assertEqual([step for step in thing if step[0] in ("wish", "open")], [])
        for atom, truth in rows_by([], thing)[-1]:
            self.assertIn((atom, not truth), literals)
        return kind

    def hold(self, literals):
        self.assertEqual(self.looked_over(literals), "world", literals)

    def fall(self, literals):
        self.assertEqual(self.looked_over(literals), "steps", literals)

    def test_no_literals(self):
        self.hold([])
        self.assertEqual(together([]), ("world", ({}, {}, {})))

    def test_flags(self):
        self.hold(yes(P))
        self.hold(no(P))
        self.hold(yes(Q, ("flag", "a")) + no(P, ("flag", "f")) + yes(like(A, FA)))

    def test_a_like_of_a_term_and_itself(self):
        for term in (A, FA, within_calls(A, 18)):
            self.hold(yes(like(term, term)))
            self.fall(no(like(term, term)))
            self.fall(no(like(term, term)) + yes(P, like(A, B)))

    def test_likes_and_unlikes(self):
        self.hold(yes(like(A, B)))
        self.hold(no(like(A, B), like(B, A)))
        self.fall(yes(like(A, B)) + no(like(B, A)))
        self.fall(yes(like(A, B), like(C, B)) + no(like(A, C)))
        self.hold(yes(like(A, B), like(C, D)) + no(like(A, C), like(B, C), like(B, D), like(A, D)))
        self.hold(no(*[like(one, other) for one, other in itertools.combinations([A, B, C, D, FA, FB], 2)]))

    def test_calls(self):
        self.fall(yes(like(A, B)) + no(like(FA, FB)))
        self.hold(no(like(A, B)) + yes(like(FA, FB)))
        self.hold(yes(like(A, B)) + no(like(FA, call("g", B)), like(FA, call("f", B, B)), like(call("a", A), A)))
        self.fall(yes(like(A, B)) + no(like(within_calls(A, 18), within_calls(B, 18))))
        self.fall(yes(like(within_calls(A, 3), A), like(within_calls(A, 5), A)) + no(like(FA, A)))
        self.hold(yes(like(within_calls(A, 4), A), like(within_calls(A, 6), A)) + no(like(FA, A)))
        self.fall(yes(like(A, B), like(C, D)) + no(like(call("f", A, C, B), call("f", B, D, A))))

    def test_calls_whose_terms_have_alike_values(self):
        # Both a and b are 1, so f of them is one value, whatever likes say of nothing.
        fixed = yes(most(ONE, (A, ONE)), most(MINUS, (A, MINUS)), most(ONE, (B, ONE)), most(MINUS, (B, MINUS)))
        self.hold(fixed + yes(like(FA, C), like(FB, D)))
        self.fall(fixed + no(like(FA, FB)))
        self.fall(fixed + yes(like(FA, C), like(FB, D)) + no(like(C, D)))
        self.fall(fixed + yes(most(ZERO, (FA, ONE))) + no(most(ZERO, (FB, ONE))))
        self.hold(fixed + no(like(FA, call("g", A)), like(FA, A), like(FA, FC)))

    def test_sums_of_nothing(self):
        for bound, truth in itertools.product((ONE, ZERO, MINUS, HALF, (-1, 2)), (True, False)):
            told = self.looked_over([(most(bound), truth)])
            self.assertEqual(told, "world" if (bound[0] >= 0) == truth else "steps")
            self.assertEqual(self.looked_over([(most(bound), truth)] + yes(like(A, B), under(A, B)) + no(P)), told)

    def test_sums(self):
        self.hold(yes(most(ONE, (A, ONE))) + no(most(HALF, (A, ONE))))
        self.fall(yes(most(HALF, (A, ONE))) + no(most(ONE, (A, ONE))))
        self.fall(no(most(ZERO, (A, ONE)), most(ZERO, (A, MINUS))))
        self.hold(yes(most(ZERO, (A, ONE)), most(ZERO, (A, MINUS))))
        self.fall(yes(under(A, B), under(B, C)) + no(under(A, C)))
        self.hold(no(under(A, B), under(B, C), under(C, D)))
        self.fall(no(under(A, B), under(B, C), under(C, A)))
        self.fall(yes(most((9, 1), (A, (2, 1)), (B, (3, 1)))) + no(most((3, 1), (A, ONE)), most(ONE, (B, ONE))))

    def test_likes_that_sums_tell(self):
        for terms in ([A, B], [A, B, C], [C, A, D, B], [FA, A, FB, B]):
            ring = [under(one, other) for one, other in zip(terms, terms[1:] + terms[:1])]
            self.hold(yes(*ring))
            for one, other in itertools.permutations(terms, 2):
                self.fall(yes(*ring) + no(like(one, other)))
            for at in range(len(ring)):
                self.hold(yes(*ring[:at], *ring[at + 1:]) + no(like(terms[0], terms[-1])))

    def test_likes_that_scaled_sums_tell(self):
        halves = [most(ZERO, (A, HALF), (B, (-1, 2))), most(ZERO, (A, (-3, 1)), (B, (3, 1)))]
        self.fall(yes(*halves) + no(like(B, A)))
        self.hold(yes(halves[0]) + no(halves[1], like(B, A)))
        equal = [most((7, 3), (A, ONE), (C, ONE)), most((-7, 3), (A, MINUS), (C, MINUS)),
                 most((7, 3), (B, ONE), (C, ONE)), most((-7, 3), (B, MINUS), (C, MINUS))]
        self.fall(yes(*equal) + no(like(A, B)))
        self.fall(yes(*equal) + no(like(FB, FA)))
        self.hold(yes(*equal) + no(like(A, C), like(B, C)))

    def test_sums_that_likes_tell(self):
        self.fall(yes(like(A, B)) + no(under(A, B)))
        self.fall(yes(like(A, B)) + no(under(B, A)))
        self.fall(yes(like(B, A), like(B, C)) + no(under(A, C)))
        self.fall(yes(like(A, B)) + no(under(FA, FB)))
        self.fall(yes(like(A, B), most(ZERO, (A, ONE))) + no(most(ZERO, (B, ONE))))
        self.fall(yes(like(A, B), most(ONE, (A, ONE), (B, ONE))) + no(most(HALF, (A, ONE))))
        self.hold(yes(like(A, B), under(A, B), under(B, A)))
        self.fall(yes(like(A, B)) + no(most(ZERO, (A, (2, 1)), (B, (-2, 1)))))
        self.fall(yes(like(A, B), most((-1, 1), (A, ONE), (B, MINUS))))
        self.hold(yes(like(A, B), most(ZERO, (A, ONE), (B, (-2, 1)))) + no(most(ONE, (A, ONE))))

    def test_what_likes_tell_is_also_given(self):
        self.hold(yes(like(A, B), under(A, B)))
        self.fall(yes(like(A, B), under(A, B), most(ZERO, (A, ONE))) + no(most(ZERO, (B, ONE))))
        self.fall(yes(like(A, B), under(B, A), most(ZERO, (A, ONE))) + no(most(ZERO, (B, ONE))))
        self.fall(yes(like(A, B), under(B, A)) + no(under(A, B)))
        self.fall(yes(like(A, C), like(B, C), like(A, B)) + no(under(A, B), under(C, B)))

    def test_several_rounds_with_calls(self):
        # a is b by sums, so f a is f b, so by sums c is d, so g c is g d.
        sums = yes(under(A, B), under(B, A), under(C, FA), under(FB, C), under(D, FA), under(FA, D))
        unlike = no(like(call("g", C), call("g", D)))
        self.fall(sums + unlike)
        for at in range(len(sums)):
            self.hold(sums[:at] + sums[at + 1:] + unlike)
        rounds = yes(like(A, B), under(FA, C), under(C, FB), like(C, D), like(call("g", D), E), like(call("g", FA), F))
        self.fall(rounds + no(under(E, F)))
        self.fall(rounds + no(like(F, E)))
        for at in (0, 1, 2, 3, 4, 5):
            self.hold(rounds[:at] + rounds[at + 1:] + no(like(F, E)))

    def test_classes_in_sums_and_out_of_them(self):
        # Values of their own must be none that sums give.
        for bound in range(-3, 9):
            fixed = yes(most((bound, 1), (A, ONE)), most((-bound, 1), (A, MINUS)))
            self.hold(fixed + no(*[like(A, other) for other in (B, C, D, E, F, FA, FB)], like(B, C), like(FA, FB)))

    def test_sixteen_likes_and_sixteen_sums(self):
        terms = [A, B, C, FA, FB, FC]
        pairs = list(itertools.combinations(terms, 2))
        unlikes = no(*[like(one, other) for one, other in pairs], like(within_calls(A, 16), within_calls(B, 16)))
        order = no(*[under(other, one) for one, other in pairs], most(ZERO, (A, ONE)))
        self.assertEqual((len(unlikes), len(order)), (16, 16))
        self.hold(unlikes + order)
        self.hold(unlikes + yes(*[atom for atom, truth in order]))
        self.fall(unlikes + yes(*[atom for atom, truth in order[:15]]) + yes(under(A, FC)))
        self.fall(unlikes + order[:15] + no(under(A, FC)))

    def test_forty_parts(self):
        ends = [within_calls(A, 19), within_calls(B, 19)]
        self.assertEqual(len(parts_plainly(ends)), 40)
        self.fall(yes(under(A, B), under(B, A)) + no(like(*ends)))
        self.hold(yes(under(A, B)) + no(like(*ends)))
        self.fall(yes(under(A, B), under(B, A), most(ZERO, (ends[0], ONE))) + no(most(ZERO, (ends[1], ONE))))

    def test_fractions_of_four_figures(self):
        close = yes(most((9998, 9999), (A, ONE))) + no(most((9997, 9998), (A, ONE)))
        self.hold(close + no(like(A, B)))
        self.fall(close + no(most((9998, 9999), (A, ONE), (B, (9999, 1)))) + yes(most(ZERO, (B, (1, 9999)))))

    def some_literals(self, chance):
        parts = parts_plainly([some_term(chance, "abcdef", 3) for each in range(chance.randint(2, 6))])[:40]
        terms = chance.sample(parts, min(len(parts), chance.randint(2, 6)))
        atoms = {}
        for each in range(chance.randint(0, 8)):
            atoms[like(chance.choice(parts), chance.choice(parts))] = chance.random() < 0.6
        for each in range(chance.randint(0, 3) if len(terms) > 1 else 0):
            ring = chance.sample(terms, chance.randint(2, min(4, len(terms))))
            for one, other in zip(ring, ring[1:] + ring[:1]):
                share = fraction(chance.randint(1, 3), chance.randint(1, 3))
                pair = (other, (-share[0], share[1]))
                atoms[most(ZERO, (one, share), pair)] = chance.random() < 0.95
        for each in range(chance.randint(0, 3)):
            shares = [fraction(chance.randint(-3, 3), chance.randint(1, 3)) for term in terms]
            bound = fraction(chance.randint(-5, 9), chance.randint(1, 3))
            atoms[most(bound, *zip(terms[:chance.randint(0, 6)], shares))] = chance.random() < 0.5
        literals = list(atoms.items())
        chance.shuffle(literals)
        return literals[:chance.randint(0, 24)]

    def test_by_chance(self):
        chance = random.Random(70)
        kinds = {"world": 0, "steps": 0}
        meets = 0
        for turn in range(800):
            literals = self.some_literals(chance)
            kinds[self.looked_over(literals)] += 1
            kind, told = together(literals)
            meets += kind == "steps" and any(step[0] == "meet" for step in told)
        self.assertGreater(min(kinds.values()), 100)
        self.assertGreater(meets, 20)

    def test_what_is_told_is_the_askers_own(self):
        world = together(yes(P, like(A, FA), under(A, B)))[1]
        for part in world:
            part.clear()
        together(no(like(A, A)))[1].clear()
        self.hold(yes(P, like(A, FA), under(A, B)))
        self.fall(no(like(A, A)))


if __name__ == "__main__":
    unittest.main()
