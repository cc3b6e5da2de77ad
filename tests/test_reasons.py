import copy
import random
import unittest

from plain import A, B, C, call, name, parts_plainly, some_term, within_calls
from smallword.checker import rows_by
from smallword.classes import are_same
from smallword.reasons import reason, why
from smallword.rows import row_of

D, E = name("d"), name("e")
FA, FB, FC = call("f", A), call("f", B), call("f", C)
KINDS = {"self", "turn", "chain", "calls", "resolve"}


def row_told(likes, places, one, other):
    """The row that tells that two terms are the same by the likes at places."""
    return row_of([(("like",) + likes[place], False) for place in places] + [(("like", one, other), True)])


class Reasons(unittest.TestCase):
    def looked_over(self, likes, one, other):
        """The reason, once it and the steps that tell it are looked over."""
        before = copy.deepcopy(likes)
        places = reason(likes, one, other)
        steps = why(likes, one, other)
        self.assertEqual(likes, before)
        if not are_same(likes, one, other):
            self.assertIsNone(places)
            self.assertIsNone(steps)
            return None
        self.assertIs(type(places), list)
        self.is_reason(likes, places, one, other)
        self.assertIs(type(steps), list)
        self.assertLessEqual({step[0] for step in steps}, KINDS)
        last = rows_by([], steps)[-1]
        pairs = [(thing[1], thing[2]) for thing, truth in last if not truth]
        told = [likes.index(pair) for pair in pairs]
        self.is_reason(likes, sorted(told), one, other)
        self.assertEqual(last, row_told(likes, told, one, other))
        return places

    def is_reason(self, likes, places, one, other):
        self.assertEqual(places, sorted(set(places)))
        self.assertIs(are_same([likes[place] for place in places], one, other), True)
        for struck in places:
            self.assertIs(are_same([likes[place] for place in places if place != struck], one, other), False)

    def test_one_term_and_itself(self):
        for likes in ([], [(A, B)], [(A, A)], [(A, B), (B, A)], [(FA, A)]):
            for term in (A, FA, within_calls(A, 15)):
                self.assertEqual(self.looked_over(likes, term, term), [])
                self.assertEqual(rows_by([], why(likes, term, term))[-1], ((("like", term, term), True),))

    def test_not_the_same(self):
        for likes, one, other in (([], A, B), ([(A, B)], A, C), ([(FA, FB)], A, B), ([(A, B)], FA, call("g", B)),
                                  ([(A, B)], FA, call("f", B, B)), ([(A, A)], A, FA)):
            self.assertIsNone(self.looked_over(likes, one, other))

    def test_one_like(self):
        for pair in ((A, B), (FA, B), (A, FA), (within_calls(A, 9), B)):
            self.assertEqual(self.looked_over([pair], pair[0], pair[1]), [0])
            like = ("like",) + pair
            self.assertEqual(rows_by([], why([pair], pair[0], pair[1]))[-1], ((like, False), (like, True)))

    def test_a_like_turned_about(self):
        self.assertEqual(self.looked_over([(C, C), (B, A)], A, B), [1])
        row = row_of([(("like", B, A), False), (("like", A, B), True)])
        self.assertEqual(rows_by([], why([(B, A)], A, B))[-1], row)

    def test_chains(self):
        likes = [(D, E), (A, B), (C, B), (C, D)]
        self.assertEqual(self.looked_over(likes, A, C), [1, 2])
        self.assertEqual(self.looked_over(likes, D, A), [1, 2, 3])
        self.assertEqual(self.looked_over(likes, A, E), [0, 1, 2, 3])
        names = [name("abcdefghijklmnopqrstuvwxyz"[at % 26] * (at // 26 + 1)) for at in range(40)]
        self.assertEqual(self.looked_over(list(zip(names, names[1:])), names[0], names[39]), list(range(39)))

    def test_several_ways(self):
        # One way by two, one by three likes: any of both, never all five.
        likes = [(A, B), (B, E), (A, C), (C, D), (D, E)]
        self.assertIn(self.looked_over(likes, A, E), ([0, 1], [2, 3, 4]))
        self.assertEqual(self.looked_over(likes + [(A, E)] * 2, B, E)[:1], [1])
        self.assertEqual(len(self.looked_over([(A, B), (B, A), (A, B)], A, B)), 1)
        # By the calls, or by the way round.
        self.assertIn(self.looked_over([(A, B), (FA, C), (C, FB)], FA, FB), ([0], [1, 2]))

    def test_a_way_that_others_make_needless(self):
        # f a and f b are first joined by c, though c is needless once a and b are joined by them.
        likes = [(FA, C), (FB, C), (A, FA), (B, FB)]
        self.assertEqual(self.looked_over(likes, A, B), [0, 1, 2, 3])
        self.assertIn(self.looked_over(likes + [(A, B)], FA, FB), ([0, 1], [4]))

    def test_likes_told_twice(self):
        places = self.looked_over([(A, B), (A, B), (B, C), (C, B)], A, C)
        self.assertIn(places, ([0, 2], [0, 3], [1, 2], [1, 3]))
        self.assertEqual(self.looked_over([(A, A), (A, B), (A, A)], A, B), [1])

    def test_calls(self):
        self.assertEqual(self.looked_over([(A, B)], FA, FB), [0])
        self.assertEqual(self.looked_over([(B, A)], FA, FB), [0])
        self.assertEqual(self.looked_over([(A, B), (C, D)], call("f", A, C, E), call("f", B, D, E)), [0, 1])
        self.assertEqual(self.looked_over([(C, D), (A, B)], call("f", A, A, A), call("f", B, B, A)), [1])
        self.assertEqual(self.looked_over([(A, B)], call("f", A, B), call("f", B, A)), [0])

    def test_calls_within_calls(self):
        self.assertEqual(self.looked_over([(A, B)], within_calls(A, 15), within_calls(B, 15)), [0])
        one, other = call("g", FA, within_calls(B, 2)), call("g", FC, within_calls(A, 2))
        self.assertEqual(self.looked_over([(A, B), (B, C)], one, other), [0, 1])
        self.assertEqual(self.looked_over([(FA, A)], within_calls(A, 12), A), [0])
        likes = [(within_calls(A, 3), A), (within_calls(A, 5), A)]
        self.assertEqual(self.looked_over(likes, FA, A), [0, 1])
        self.assertEqual(self.looked_over([(within_calls(A, 8), A), (within_calls(A, 13), A)], FA, A), [0, 1])

    def test_calls_that_become_the_same_by_others_that_did(self):
        likes = [(FA, C), (FB, D), (A, B), (call("g", C), A), (call("g", D), E)]
        self.assertEqual(self.looked_over(likes, A, E), [0, 1, 2, 3, 4])
        self.assertEqual(self.looked_over(likes, C, D), [0, 1, 2])

    def test_by_chance(self):
        chance = random.Random(69)
        told = []
        for turn in range(600):
            parts = parts_plainly([some_term(chance, "abcdef", 3) for each in range(chance.randint(1, 6))])[:40]
            likes = [(chance.choice(parts), chance.choice(parts)) for each in range(chance.randint(0, 12))]
            told.append(self.looked_over(likes, chance.choice(parts), chance.choice(parts)))
        self.assertGreater(len([places for places in told if places is None]), 100)
        self.assertGreater(len([places for places in told if places and len(places) > 2]), 50)

    def test_what_is_told_is_the_askers_own(self):
        likes = [(A, B), (B, C)]
        reason(likes, A, C).clear()
        why(likes, A, C).clear()
        self.assertEqual(self.looked_over(likes, A, C), [0, 1])


if __name__ == "__main__":
    unittest.main()
