import copy
import itertools
import random
import unittest

from plain import A, B, C, HALF, ONE, ZERO, call, name, within_calls
from smallword.checker import lets_by
from smallword.deciding import decided
from smallword.papertexts import read_paper, shown_paper
from smallword.steps import is_step
from smallword.sums import less_sum
from smallword.trimming import rest_of, shortened
from smallword.wishes import above, at_least, at_most, below, equal
from smallword.worlds import is_world, keeps
from somewishes import ring, some_atoms, some_wishes, tight_wishes

P, Q, R = ("flag", "p"), ("flag", "q"), ("flag", "r")
D = name("d")
FA, FB = call("f", A), call("f", B)
ALL, ANY = ("both", ()), ("either", ())


def no(wish):
    return ("not", wish)


def like(one, other):
    return ("like", one, other)


def all_of(*wishes):
    return ("both", wishes)


def any_of(*wishes):
    return ("either", wishes)


def least_of(term, bound):
    return at_least([(term, ONE)], (bound, 1))


def most_of(term, bound):
    return at_most([(term, ONE)], (bound, 1))


class Decided(unittest.TestCase):
    def told(self, wishes):
        """"yes" or "no", once what comes with it is looked over."""
        before = copy.deepcopy(wishes)
        answer = decided(wishes)
        self.assertEqual(wishes, before)
        self.assertIs(type(answer), tuple)
        kind, told = answer
        if kind == "yes":
            self.assertIs(is_world(told), True)
            self.assertIs(keeps(wishes, told), True)
        else:
            self.assertEqual(kind, "no")
            self.assertIs(type(told), list)
            self.assertTrue(all(is_step(step) for step in told))
            self.assertIs(lets_by(wishes, told), True)
        return kind

    def looked_over(self, wishes):
        """What is told, and told alike of the wishes in other orders, and with one of them twice."""
        kind = self.told(wishes)
        self.assertEqual(self.told(wishes[::-1]), kind)
        self.assertEqual(self.told(wishes[1:] + wishes[:1]), kind)
        self.assertEqual(self.told(wishes[:1] + wishes), kind)
        self.assertEqual(self.told([all_of(*wishes)]), kind)
        return kind

    def yes(self, *wishes):
        self.assertEqual(self.looked_over(list(wishes)), "yes", wishes)

    def no(self, *wishes):
        self.assertEqual(self.looked_over(list(wishes)), "no", wishes)

    def test_no_wishes(self):
        self.assertEqual(decided([]), ("yes", ({}, {}, {})))

    def test_of_none(self):
        self.yes(ALL)
        self.no(ANY)
        self.no(no(ALL))
        self.yes(no(ANY))
        self.yes(any_of(ANY, ALL))
        self.no(all_of(ANY, ALL))
        self.no(P, any_of(ANY, no(P)))

    def test_nots_within_nots(self):
        for many in range(8):
            wish = P
            for each in range(many):
                wish = no(wish)
            self.yes(wish)
            (self.yes if many % 2 == 0 else self.no)(wish, P)
        self.no(no(no(ANY)))
        self.no(no(any_of(no(no(P)), no(P))))

    def test_flags_alone(self):
        self.yes(P, no(Q))
        self.no(P, no(P))
        self.yes(any_of(P, Q), any_of(no(P), no(Q)))
        self.no(*[any_of(*[flag if truth else no(flag) for flag, truth in zip((P, Q, R), truths)])
                  for truths in itertools.product((True, False), repeat=3)])
        self.no(any_of(all_of(P, Q), all_of(no(P), Q)), no(Q))
        self.yes(no(all_of(P, Q)), no(all_of(no(P), no(Q))))

    def test_the_same_part_with_both_truths(self):
        both = all_of(P, Q)
        self.no(both, no(both))
        self.no(any_of(both, R), no(R), no(both))
        self.yes(any_of(both, no(both)))
        self.yes(all_of(P, P), any_of(Q, Q), any_of(P, no(P)))
        self.no(all_of(P, no(P)))

    def test_likenings_alone(self):
        self.yes(like(A, B), no(like(A, C)))
        self.no(like(A, B), like(B, C), no(like(C, A)))
        self.no(any_of(like(A, B), like(B, A)), no(like(FA, FB)))
        self.yes(any_of(like(A, B), like(A, C)), no(like(FA, FB)))
        self.no(any_of(like(A, B), like(A, C)), any_of(like(A, B), no(like(A, C))), no(like(FA, FB)))
        self.no(no(like(A, A)))
        self.no(like(within_calls(A, 3), A), like(within_calls(A, 5), A), no(like(FA, A)))

    def test_three_things_and_two_values(self):
        places = [any_of(like(term, name("u")), like(term, name("v"))) for term in (A, B, C)]
        unlike = [no(like(one, other)) for one, other in itertools.combinations((A, B, C), 2)]
        self.no(*places, *unlike)
        self.yes(*places, *unlike[:2])
        self.yes(*places[:2], *unlike)

    def test_sums_alone(self):
        self.yes(most_of(A, 3), least_of(A, 3))
        self.no(most_of(A, 2), least_of(A, 3))
        self.no(below([(A, ONE)], HALF), above([(A, ONE)], HALF))
        self.no(equal([(A, ONE), (B, ONE)], ONE), equal([(A, ONE), (B, (-1, 1))], ZERO), no(most_of(A, 0)), most_of(B, 0))
        self.yes(any_of(most_of(A, 0), least_of(A, 2)), least_of(A, 1))
        self.no(any_of(most_of(A, 0), least_of(A, 2)), above([(A, ONE)], ZERO), most_of(A, 1))
        self.no(at_most([], (-1, 1)))
        self.yes(at_most([], ZERO))
        self.no(below([], ZERO))

    def test_all_kinds_together(self):
        # b is a or f a; f of it is 1 more than f a, so it is not a, so it is f a.
        wishes = [any_of(like(B, A), like(B, FA)), equal([(FB, ONE), (FA, (-1, 1))], ONE)]
        self.yes(*wishes)
        self.no(*wishes, no(like(B, FA)))
        self.no(*wishes, any_of(P, no(like(B, FA))), no(P))
        self.no(*ring([A, B, C]), any_of(no(like(FA, FB)), no(like(A, C))))
        self.yes(*ring([A, B, C])[:2], any_of(no(like(FA, FB)), no(like(A, C))))
        self.no(any_of(all_of(P, like(A, B)), all_of(no(P), *ring([A, B]))), no(like(FA, FB)))
        self.yes(any_of(all_of(P, like(A, B)), all_of(no(P), *ring([A, B])[:1])), no(like(FA, FB)))

    def test_learnt_from_sums_and_likes_in_turn(self):
        c, d = C, D
        wishes = ring([A, B]) + [like(c, FA)] + ring([d, FB]) + [any_of(no(like(call("g", c), call("g", d))), Q)]
        self.yes(*wishes)
        self.no(*wishes, no(Q))

    def test_whole_orders(self):
        # Four things side by side, each 1 broad, on 3, then on 4.
        terms = [A, B, C, D]
        beside = [any_of(at_most([(one, ONE), (other, (-1, 1))], (-1, 1)), at_most([(other, ONE), (one, (-1, 1))], (-1, 1)))
                  for one, other in itertools.combinations(terms, 2)]
        low = [at_most([(term, (-1, 1))], ZERO) for term in terms]
        for broad, kind in ((2, "no"), (3, "yes")):
            self.assertEqual(self.told(beside + low + [most_of(term, broad) for term in terms]), kind)

    def test_names_alike_across_the_sorts(self):
        flag, term = ("flag", "f"), call("f", name("f"))
        self.yes(flag, no(like(term, name("f"))))
        self.no(flag, like(term, name("f")), no(like(call("f", term), name("f"))))

    def test_deep_wishes(self):
        wish = P
        for each in range(19):
            wish = all_of(wish) if each % 2 else any_of(wish)
        self.yes(wish)
        self.no(wish, no(P))
        self.no(like(A, B), no(like(within_calls(A, 17), within_calls(B, 17))))

    def test_broad_wishes(self):
        flags = [("flag", one + other) for one in "abcdefgh" for other in "abc"]
        self.yes(any_of(*flags), *[no(flag) for flag in flags[1:]])
        self.no(any_of(*flags), all_of(*[no(flag) for flag in flags]))

    def test_by_chance(self):
        chance = random.Random(85)
        kinds = {"yes": 0, "no": 0}
        for turn in range(200):
            atoms = some_atoms(chance, chance.randint(1, 8), chance.randint(0, 12), chance.randint(0, 12))
            wishes = some_wishes(chance, atoms, chance.randint(1, 12), chance.choice([1, 2, 3]))
            kinds[self.told(wishes)] += 1
        self.assertGreater(min(kinds.values()), 30)

    def test_much_to_be_learnt_by_chance(self):
        chance = random.Random(86)
        kinds = {"yes": 0, "no": 0}
        for turn in range(90):
            kinds[self.told(tight_wishes(chance, ("likes", "sums", "all")[turn % 3]))] += 1
        self.assertGreater(min(kinds.values()), 10)

    def test_papers_shortened_and_as_texts(self):
        chance = random.Random(87)
        told = 0
        for turn in range(60):
            wishes = tight_wishes(chance, ("likes", "sums", "all")[turn % 3])
            kind, paper = decided(wishes)
            if kind == "yes":
                continue
            told += 1
            shorter = shortened(wishes, paper)
            self.assertIs(lets_by(wishes, shorter), True)
            self.assertLessEqual(len(shorter), len(paper))
            self.assertLessEqual(set(rest_of(shorter)), set(rest_of(paper)))
            self.assertEqual(decided([wishes[number] for number in rest_of(shorter)])[0], "no")
            self.assertEqual(read_paper(shown_paper(paper)), paper)
        self.assertGreater(told, 10)

    def test_what_is_told_is_the_askers_own(self):
        for part in decided([P, like(A, FA)])[1]:
            part.clear()
        decided([P, no(P)])[1].clear()
        self.yes(P, like(A, FA))
        self.no(P, no(P))


if __name__ == "__main__":
    unittest.main()
