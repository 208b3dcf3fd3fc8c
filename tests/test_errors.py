"""The errors: their kinds, and their fields."""

import unittest

from behindbeside import errors

WITH_FIELD = (
    ("BadPairs", "place"), ("BadTerm", "value"), ("BadNumber", "value"), ("BadExchange", "place"),
    ("NoTerm", "four"), ("Lacks", "pair"), ("BadRun", "place"), ("BadRuns", "value"), ("BadText", "place"),
)
WITHOUT_FIELD = ("OtherTasks", "NothingLeft")
VALUES = (None, 0, 3, -1, 10 ** 999, True, "a", b"a", (0, 1), (0, 1, 2, 3), [0], {}, object(), ("behind", 0))


class Kinds(unittest.TestCase):
    def test_task_error_is_a_value_error(self):
        self.assertEqual(errors.TaskError.__bases__, (ValueError,))

    def test_direct_subclasses_of_task_error(self):
        names = [name for name, field in WITH_FIELD] + list(WITHOUT_FIELD)
        for name in names:
            with self.subTest(name):
                self.assertEqual(getattr(errors, name).__bases__, (errors.TaskError,))

    def test_too_great_is_an_overflow_error_alone(self):
        self.assertEqual(errors.TooGreat.__bases__, (OverflowError,))
        self.assertFalse(issubclass(errors.TooGreat, errors.TaskError))
        self.assertFalse(issubclass(errors.TooGreat, ValueError))

    def test_they_are_defined_in_their_file(self):
        names = [name for name, field in WITH_FIELD] + list(WITHOUT_FIELD) + ["TaskError", "TooGreat"]
        for name in names:
            with self.subTest(name):
                self.assertEqual(getattr(errors, name).__module__, "behindbeside.errors")
                self.assertEqual(getattr(errors, name).__name__, name)


class Fields(unittest.TestCase):
    def check(self, name, field):
        made = getattr(errors, name)
        for value in VALUES:
            with self.subTest(name, value=value):
                self.assertIs(getattr(made(value), field), value)
                self.assertIs(getattr(made(**{field: value}), field), value)

    def test_by_position_and_by_name(self):
        for name, field in WITH_FIELD:
            self.check(name, field)

    def test_most(self):
        self.check("TooGreat", "most")

    def test_a_field_is_needed(self):
        for name, field in WITH_FIELD + (("TooGreat", "most"),):
            with self.subTest(name), self.assertRaises(TypeError):
                getattr(errors, name)()

    def test_other_names_are_no_fields(self):
        for name, field in WITH_FIELD + (("TooGreat", "most"),):
            with self.subTest(name), self.assertRaises(TypeError):
                getattr(errors, name)(thing=0)

    def test_made_without_field(self):
        for name in WITHOUT_FIELD:
            with self.subTest(name):
                self.assertIsInstance(getattr(errors, name)(), errors.TaskError)

    def test_they_can_be_raised_and_shown(self):
        for name, field in WITH_FIELD:
            with self.subTest(name):
                with self.assertRaises(errors.TaskError) as caught:
                    raise getattr(errors, name)(10 ** 999)
                self.assertIsInstance(str(caught.exception), str)
        with self.assertRaises(OverflowError) as caught:
            raise errors.TooGreat(6)
        self.assertIsInstance(str(caught.exception), str)


if __name__ == "__main__":
    unittest.main()
