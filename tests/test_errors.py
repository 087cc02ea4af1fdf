"""The refusals: their classes and fields."""

import unittest

from undivide import errors

FIELDS = {
    "BadText": "at", "BadLetters": None, "BadRow": "at", "NoOver": "at", "NoName": "name",
    "TooMany": "at", "NoPaper": "at", "BadNode": "at", "BadWay": "at", "NotWhole": "at",
    "OtherLetters": None, "NotPolynomial": "which", "NoRow": None,
}


def made(name, *things):
    return getattr(errors, name)(*things)


class Refusals(unittest.TestCase):
    def test_all_stand_right_under_the_one(self):
        self.assertEqual(errors.UndivideError.__bases__, (ValueError,))
        self.assertEqual(len(FIELDS), 13)
        for name in FIELDS:
            self.assertEqual(getattr(errors, name).__bases__, (errors.UndivideError,), name)

    def test_none_stands_under_another(self):
        for name, field in FIELDS.items():
            refusal = made(name) if field is None else made(name, 3)
            self.assertIsInstance(refusal, errors.UndivideError)
            self.assertIsInstance(refusal, ValueError)
            for other in FIELDS:
                if other != name:
                    self.assertNotIsInstance(refusal, getattr(errors, other))

    def test_fields_are_what_was_handed_in(self):
        for name, field in FIELDS.items():
            if field is None:
                continue
            for thing in (0, 17, -1, "x", "", None, (1, 2), [3]):
                self.assertIs(getattr(made(name, thing), field), thing)

    def test_two_keep_their_own(self):
        for name, field in FIELDS.items():
            if field is None:
                self.assertIsNot(made(name), made(name))
                continue
            one, other = made(name, 1), made(name, 2)
            self.assertEqual((getattr(one, field), getattr(other, field)), (1, 2))

    def test_as_many_things_as_told(self):
        for name, field in FIELDS.items():
            if field is not None:
                with self.assertRaises(TypeError):
                    made(name)

    def test_can_be_raised_and_taken(self):
        for name, field in FIELDS.items():
            refusal = made(name) if field is None else made(name, 5)
            with self.assertRaises(errors.UndivideError) as kept:
                raise refusal
            self.assertIs(kept.exception, refusal)
