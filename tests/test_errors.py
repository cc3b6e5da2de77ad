import unittest

from smallword import errors

OF_A_TEXT = ("NoShare", "NoStep", "NoLevel", "NoWish", "NoAnswer", "NoLine")
WITH_FIELD = (("NoText", "at"), ("BadStep", "place"), ("NoPaper", "place"))


class Errors(unittest.TestCase):
    def test_base_stands_under_value_error_alone(self):
        self.assertEqual(errors.WishError.__bases__, (ValueError,))

    def test_each_refusal_stands_under_the_base_alone(self):
        for name in OF_A_TEXT + tuple(name for name, field in WITH_FIELD):
            with self.subTest(name):
                self.assertEqual(getattr(errors, name).__bases__, (errors.WishError,))

    def test_others_are_made_of_a_text(self):
        for name in OF_A_TEXT:
            with self.subTest(name):
                self.assertEqual(str(getattr(errors, name)("some words")), "some words")

    def test_fields_are_kept_as_told(self):
        for name, field in WITH_FIELD:
            for told in (0, 7, 10 ** 30):
                with self.subTest(name, told=told):
                    made = getattr(errors, name)(told)
                    self.assertEqual(getattr(made, field), told)
                    self.assertEqual(vars(made), {field: told})

    def test_they_are_taken_by_their_base(self):
        for made in (errors.NoText(3), errors.BadStep(4), errors.NoShare("x")):
            with self.assertRaises(errors.WishError):
                raise made


if __name__ == "__main__":
    unittest.main()
