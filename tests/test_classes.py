import copy
import random
import unittest

from plain import A, B, C, call, name, parts_plainly, same_plainly, some_term, within_calls
from smallword.classes import all_classes, are_same, parts_in

D, E = name("d"), name("e")
FA, FB, FC = call("f", A), call("f", B), call("f", C)


class Parts(unittest.TestCase):
    def test_no_terms(self):
        self.assertEqual(parts_in([]), [])

    def test_names(self):
        self.assertEqual(parts_in([A]), [A])
        self.assertEqual(parts_in([B, C, A]), [A, B, C])
        self.assertEqual(parts_in([name("ab"), name("b"), name("aaaaaaaa")]), [name("aaaaaaaa"), name("ab"), name("b")])

    def test_calls_rise_ahead_of_names(self):
        self.assertEqual(parts_in([FA]), [FA, A])
        self.assertEqual(parts_in([A, FA, call("a", B)]), [call("a", B), FA, A, B])

    def test_one_within_another(self):
        deep = call("g", FA, call("f", FA, B))
        every = sorted([deep, FA, call("f", FA, B), A, B])
        for terms in ([deep], [A, deep], [deep, FA, B], [FA, deep, call("f", FA, B), deep]):
            self.assertEqual(parts_in(terms), every)

    def test_a_term_several_times(self):
        self.assertEqual(parts_in([A, A, A]), [A])
        self.assertEqual(parts_in([FA, FA, A, call("f", A, A, A)]), sorted([FA, A, call("f", A, A, A)]))

    def test_alike_names_of_functions_and_things(self):
        self.assertEqual(parts_in([call("a", A)]), [call("a", A), A])

    def test_deep_terms(self):
        deep = within_calls(A, 19)
        self.assertEqual(parts_in([deep]), sorted([within_calls(A, many) for many in range(20)]))

    def test_by_chance(self):
        chance = random.Random(65)
        for turn in range(100):
            terms = [some_term(chance, "abc", 4) for each in range(chance.randint(0, 6))]
            before = copy.deepcopy(terms)
            self.assertEqual(parts_in(terms), parts_plainly(terms))
            self.assertEqual(terms, before)

    def test_what_is_told_is_the_askers_own(self):
        parts_in([FA]).clear()
        self.assertEqual(parts_in([FA]), [FA, A])


class Same(unittest.TestCase):
    def same(self, likes, one, other):
        """Whether two terms are the same, told alike both ways about."""
        before = copy.deepcopy(likes)
        told = are_same(likes, one, other)
        self.assertIs(are_same(likes, other, one), told)
        self.assertIs(are_same([pair[::-1] for pair in likes[::-1]] * 2, one, other), told)
        self.assertEqual(likes, before)
        return told

    def test_one_term_without_any_likes(self):
        for term in (A, FA, within_calls(A, 19)):
            self.assertIs(self.same([], term, term), True)
        for one, other in ((A, B), (A, FA), (FA, FB), (FA, call("g", A)), (FA, call("f", A, A))):
            self.assertIs(self.same([], one, other), False)

    def test_a_pair_either_way_about(self):
        self.assertIs(self.same([(A, B)], A, B), True)
        self.assertIs(self.same([(A, FB)], FB, A), True)
        self.assertIs(self.same([(A, B)], A, C), False)

    def test_chains(self):
        likes = [(A, B), (C, B), (C, D), (E, E)]
        for one in (A, B, C, D):
            for other in (A, B, C, D):
                self.assertIs(self.same(likes, one, other), True)
            self.assertIs(self.same(likes, one, E), False)

    def test_forty_likes(self):
        names = [name("abcdefghijklmnopqrstuvwxyz"[at % 26] * (at // 26 + 1)) for at in range(40)]
        chain = list(zip(names, names[1:]))
        self.assertIs(self.same(chain + [(names[5], names[20])], names[0], names[39]), True)
        self.assertIs(self.same(chain[:20] + chain[21:], names[0], names[39]), False)
        self.assertIs(self.same(chain[:20] + chain[21:] + [(names[39], names[0])], names[20], names[21]), True)

    def test_calls_of_one_function(self):
        self.assertIs(self.same([(A, B)], FA, FB), True)
        self.assertIs(self.same([(A, B), (C, D)], call("f", A, C, A), call("f", B, D, A)), True)
        self.assertIs(self.same([(A, B)], call("f", A, C), call("f", B, D)), False)
        self.assertIs(self.same([(A, B)], call("f", A, B), call("f", B, A)), True)
        self.assertIs(self.same([(FA, FB)], A, B), False)

    def test_calls_within_calls(self):
        for many in (2, 3, 18):
            self.assertIs(self.same([(A, B)], within_calls(A, many), within_calls(B, many)), True)
            self.assertIs(self.same([(A, B)], within_calls(A, many), within_calls(B, many - 1)), False)
        self.assertIs(self.same([(B, FA)], call("g", within_calls(A, 2), C), call("g", FB, C)), True)

    def test_calls_that_become_the_same_by_others_that_did(self):
        # f of f of f of a, and of five, is a: then f of a is.
        likes = [(within_calls(A, 3), A), (within_calls(A, 5), A)]
        self.assertIs(self.same(likes, FA, A), True)
        self.assertIs(self.same([likes[0]], FA, A), False)
        self.assertIs(self.same([(within_calls(A, 6), A), (within_calls(A, 4), A)], within_calls(A, 2), A), True)
        self.assertIs(self.same([(within_calls(A, 6), A), (within_calls(A, 4), A)], FA, A), False)
        # a is b makes f a and f b the same, so c and d, so g c and g d, so what these are.
        likes = [(FA, C), (FB, D), (A, B), (call("g", C), A), (call("g", D), E)]
        self.assertIs(self.same(likes, A, E), True)
        for at in range(len(likes)):
            self.assertIs(self.same(likes[:at] + likes[at + 1:], A, E), False)

    def test_calls_of_unlike_functions_or_with_unlike_many_terms(self):
        likes = [(A, B)]
        for one, other in ((FA, call("g", B)), (FA, call("f", B, B)), (call("f", A, A), call("f", B, B, B)),
                           (call("a", A), call("b", A))):
            self.assertIs(self.same(likes, one, other), False)

    def test_names_alike_across_the_sorts(self):
        self.assertIs(self.same([(A, B)], call("a", A), call("a", B)), True)
        self.assertIs(self.same([(call("a", A), A)], call("a", call("a", A)), A), True)
        self.assertIs(self.same([(A, B)], call("a", C), call("b", C)), False)

    def test_likes_of_a_term_and_itself(self):
        self.assertIs(self.same([(A, A), (FA, FA)], A, FA), False)
        self.assertIs(self.same([(A, A), (A, FA), (A, A)], A, within_calls(A, 7)), True)

    def test_by_chance(self):
        chance = random.Random(66)
        told = {True: 0, False: 0}
        for turn in range(150):
            parts = parts_plainly([some_term(chance, "abcd", 3) for each in range(chance.randint(1, 4))])
            likes = [(chance.choice(parts), chance.choice(parts)) for each in range(chance.randint(0, 6))]
            same = same_plainly(likes, parts)
            for each in range(5):
                one, other = chance.choice(parts), chance.choice(parts)
                self.assertIs(are_same(likes, one, other), (one, other) in same)
                told[(one, other) in same and one != other] += 1
        self.assertGreater(min(told.values()), 50)


class Classes(unittest.TestCase):
    def looked_over(self, likes, terms):
        """The classes, once they are looked over."""
        before = copy.deepcopy((likes, terms))
        told = all_classes(likes, terms)
        self.assertEqual((likes, terms), before)
        self.assertIs(type(told), list)
        self.assertEqual([type(each) for each in told], [list] * len(told))
        self.assertEqual(told, sorted([sorted(each) for each in told]))
        every = parts_plainly([term for pair in likes for term in pair] + terms)
        self.assertEqual(sorted([term for each in told for term in each]), every)
        same = same_plainly(likes, terms)
        for each in told:
            for other in told:
                self.assertEqual({(one, last) in same for one in each for last in other}, {each is other})
        return told

    def test_neither_likes_nor_terms(self):
        self.assertEqual(all_classes([], []), [])

    def test_terms_that_stand_in_no_like(self):
        self.assertEqual(self.looked_over([], [B, A, FA, A]), [[FA], [A], [B]])
        self.assertEqual(self.looked_over([(A, B)], [C, FC]), [[FC], [A, B], [C]])

    def test_likes_and_no_terms(self):
        self.assertEqual(self.looked_over([(B, A), (C, C)], []), [[A, B], [C]])
        self.assertEqual(self.looked_over([(FB, A)], []), [[FB, A], [B]])

    def test_calls_among_the_terms(self):
        self.assertEqual(self.looked_over([(A, B)], [FA, FB]), [[FA, FB], [A, B]])
        self.assertEqual(self.looked_over([(FA, A)], [within_calls(A, 3)]),
                         [[within_calls(A, 3), within_calls(A, 2), FA, A]])

    def test_the_lists_by_their_first_ones(self):
        self.assertEqual(self.looked_over([(A, D), (B, C)], [E]), [[A, D], [B, C], [E]])
        self.assertEqual(self.looked_over([(FB, D), (A, E), (FC, C)], []), [[FB, D], [FC, C], [A, E], [B]])

    def test_a_part_that_stands_several_times(self):
        self.assertEqual(self.looked_over([(A, A), (A, A)], [A, FA, FA]), [[FA], [A]])

    def test_by_chance(self):
        chance = random.Random(67)
        for turn in range(100):
            parts = parts_plainly([some_term(chance, "abcd", 3) for each in range(chance.randint(1, 4))])
            likes = [(chance.choice(parts), chance.choice(parts)) for each in range(chance.randint(0, 6))]
            self.looked_over(likes, chance.sample(parts, chance.randint(0, len(parts))))

    def test_what_is_told_is_the_askers_own(self):
        likes, terms = [(A, B)], [C]
        for each in all_classes(likes, terms):
            each.clear()
        self.assertEqual(all_classes(likes, terms), [[A, B], [C]])


if __name__ == "__main__":
    unittest.main()
