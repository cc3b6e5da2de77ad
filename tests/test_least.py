import copy
import random
import unittest

from plain import A, B, C, call
from smallword.deciding import decided
from smallword.least import least_reason
from somewishes import ring, some_atoms, some_wishes, tight_wishes

P, Q, R = ("flag", "p"), ("flag", "q"), ("flag", "r")
ANY = ("either", ())


def no(wish):
    return ("not", wish)


class Least(unittest.TestCase):
    def looked_over(self, wishes):
        """The least reason, once it is looked over."""
        before = copy.deepcopy(wishes)
        numbers = least_reason(wishes)
        self.assertEqual(wishes, before)
        if decided(wishes)[0] == "yes":
            self.assertIsNone(numbers)
            return None
        self.assertIs(type(numbers), list)
        self.assertEqual(numbers, sorted(set(numbers)))
        self.assertEqual(decided([wishes[number] for number in numbers])[0], "no")
        for struck in numbers:
            self.assertEqual(decided([wishes[number] for number in numbers if number != struck])[0], "yes")
        return numbers

    def test_that_a_world_keeps(self):
        for wishes in ([], [P], [P, P], [no(P), Q], ring([A, B, C]), [("both", ())]):
            self.assertIsNone(self.looked_over(wishes))

    def test_one_that_no_world_keeps_alone(self):
        for wish in (ANY, ("both", (P, no(P))), no(("like", A, A)), ("most", (), (-1, 1)), no(("most", (), (0, 1)))):
            self.assertEqual(self.looked_over([wish]), [0])
            self.assertEqual(self.looked_over([P, wish, Q]), [1])
            self.assertIn(self.looked_over([Q, wish, wish]), ([1], [2]))

    def test_two_of_several(self):
        self.assertEqual(self.looked_over([Q, P, R, no(P)]), [1, 3])
        self.assertEqual(self.looked_over([Q, ("both", (P, R)), R, no(P)]), [1, 3])

    def test_the_same_wish_twice(self):
        self.assertIn(self.looked_over([P, P, no(P)]), ([0, 2], [1, 2]))
        self.assertIn(self.looked_over([no(P), Q, P, no(P), P]), ([0, 2], [0, 4], [2, 3], [3, 4]))

    def test_several_least_ones(self):
        told = self.looked_over([P, ("either", (no(P), Q)), no(Q), ("both", (no(P), R)), no(R)])
        self.assertIn(told, ([0, 1, 2], [0, 3], [3, 4]))

    def test_all_are_needed(self):
        wishes = ring([A, B, C]) + [no(("like", call("f", A), call("f", C)))]
        self.assertEqual(self.looked_over(wishes), [0, 1, 2, 3])
        self.assertEqual(self.looked_over([P] + wishes[::-1] + [("like", A, A)]), [1, 2, 3, 4])
        self.assertIn(self.looked_over(wishes + [("like", A, C)]), ([0, 1, 2, 3], [3, 4]))

    def test_by_chance(self):
        chance = random.Random(87)
        lengths = []
        for turn in range(60):
            if turn % 3:
                wishes = some_wishes(chance, some_atoms(chance, 5, 5, 5), chance.randint(2, 12), chance.choice([1, 2]))
            else:
                wishes = tight_wishes(chance, chance.choice(["likes", "sums", "all"]))
            numbers = self.looked_over(wishes)
            lengths += [] if numbers is None else [len(numbers)]
        self.assertGreater(len(lengths), 20)
        self.assertLess(len(lengths), 55)
        self.assertGreater(max(lengths), 5)

    def test_what_is_told_is_the_askers_own(self):
        least_reason([P, no(P)]).clear()
        self.assertEqual(least_reason([P, no(P)]), [0, 1])


if __name__ == "__main__":
    unittest.main()
