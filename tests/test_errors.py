"""The errors of the interface: under what each stands, and its fields."""

import copy
import unittest

from rateplan import errors
from tests.samples import things_of_any_kind

STANDS_UNDER = {
    "NoText": ValueError,
    "TooMany": ValueError,
    "Unlike": ValueError,
    "NoSpeed": ArithmeticError,
    "RateError": Exception,
    "NoBeat": errors.RateError,
    "NoRoom": errors.RateError,
    "NotNow": errors.RateError,
    "NoRate": errors.RateError,
    "NoPace": errors.RateError,
    "NoName": errors.RateError,
    "NoFit": errors.RateError,
}

FIELDS = {"NoText": ("at",), "TooMany": ("limit",), "Unlike": ("one", "other"), "NoSpeed": ()}


def fields_of(name):
    return FIELDS.get(name, ("thing",))


def contents():
    return things_of_any_kind() + [0, 1, -1, 10 ** 39, "", "a\nb", "x" * 4000, object(), len]


class ErrorsTest(unittest.TestCase):

    def test_each_stands_under_just_its_class(self):
        for name, above in STANDS_UNDER.items():
            with self.subTest(name):
                self.assertEqual(getattr(errors, name).__bases__, (above,))

    def test_each_is_defined_in_errors(self):
        for name in STANDS_UNDER:
            with self.subTest(name):
                self.assertEqual(getattr(errors, name).__module__, "rateplan.errors")
                self.assertEqual(getattr(errors, name).__name__, name)

    def test_none_is_caught_as_another(self):
        for name in STANDS_UNDER:
            made = getattr(errors, name)(*(0,) * len(fields_of(name)))
            for other in STANDS_UNDER:
                with self.subTest(name, other=other):
                    due = other == name or STANDS_UNDER[name] is getattr(errors, other)
                    self.assertEqual(isinstance(made, getattr(errors, other)), due)

    def test_none_is_caught_as_an_error_of_pythons_own_that_it_is_not(self):
        for name, above in STANDS_UNDER.items():
            made = getattr(errors, name)(*(0,) * len(fields_of(name)))
            for own in (ValueError, ArithmeticError, LookupError, TypeError, RuntimeError):
                with self.subTest(name, own=own):
                    self.assertEqual(isinstance(made, own), own is above)
            self.assertIsInstance(made, Exception)

    def test_each_can_be_raised_and_caught_by_name(self):
        for name in STANDS_UNDER:
            kind = getattr(errors, name)
            with self.subTest(name), self.assertRaises(kind) as caught:
                raise kind(*(0,) * len(fields_of(name)))
            self.assertIs(type(caught.exception), kind)

    def test_fields_hold_anything(self):
        for name in STANDS_UNDER:
            fields = fields_of(name)
            if len(fields) != 1:
                continue
            for thing in contents():
                with self.subTest(name):
                    made = getattr(errors, name)(thing)
                    self.assertIs(getattr(made, fields[0]), thing)
                    self.assertEqual(set(vars(made)), set(fields))

    def test_unlike_holds_both_in_order(self):
        for one in contents():
            for other in contents():
                made = errors.Unlike(one, other)
                self.assertIs(made.one, one)
                self.assertIs(made.other, other)
                self.assertEqual(set(vars(made)), {"one", "other"})

    def test_no_speed_is_made_of_nothing(self):
        self.assertEqual(vars(errors.NoSpeed()), {})
        with self.assertRaises(TypeError):
            errors.NoSpeed(1)

    def test_what_stands_in_brackets_has_to_stand_there(self):
        for name in STANDS_UNDER:
            many = len(fields_of(name))
            with self.subTest(name):
                if many > 0:
                    self.assertRaises(TypeError, getattr(errors, name))
                self.assertRaises(TypeError, getattr(errors, name), *(0,) * (many + 1))

    def test_a_copy_has_the_same_fields(self):
        self.assertEqual(vars(copy.copy(errors.Unlike(1, 2))), {"one": 1, "other": 2})
        self.assertEqual(vars(copy.copy(errors.NoText(3))), {"at": 3})
        self.assertEqual(vars(copy.copy(errors.NoBeat("x"))), {"thing": "x"})

    def test_what_is_handed_in_stays(self):
        things = [1, [2], {"a": 3}]
        errors.NoBeat(things)
        errors.Unlike(things, things)
        self.assertEqual(things, [1, [2], {"a": 3}])


if __name__ == "__main__":
    unittest.main()
