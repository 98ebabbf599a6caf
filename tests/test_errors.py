import unittest

from leafsplits import errors

WITH_FIELD = {"InvalidRule": "item", "InvalidLevels": "level", "InvalidScript": "step",
              "InvalidRuns": "item", "InvalidSeen": "item", "InvalidText": "part",
              "OverBudget": "count"}
WITH_STRING = ["InvalidIndex", "InvalidKind", "InvalidGap", "InvalidNumber", "InvalidLevel",
               "InvalidPage", "InvalidEntry", "InvalidLength", "InvalidHeight", "InvalidLeaves",
               "InvalidBudget", "UnlikeRules", "InvalidOperation", "Nothing", "InvalidCommand"]


class ErrorsTest(unittest.TestCase):
    def test_each_class_is_there(self):
        found = [name for name, value in vars(errors).items()
                 if isinstance(value, type) and issubclass(value, Exception)]
        self.assertEqual(sorted(found), sorted(["PageError", *WITH_FIELD, *WITH_STRING]))

    def test_each_class_is_defined_in_the_file(self):
        for name in ["PageError", *WITH_FIELD, *WITH_STRING]:
            self.assertEqual(getattr(errors, name).__module__, "leafsplits.errors")

    def test_page_error_is_a_value_error(self):
        self.assertTrue(issubclass(errors.PageError, ValueError))
        self.assertEqual(str(errors.PageError("words")), "words")

    def test_no_class_is_below_another_one_but_page_error(self):
        classes = [getattr(errors, name) for name in [*WITH_FIELD, *WITH_STRING]]
        for one in classes:
            self.assertTrue(issubclass(one, errors.PageError))
            for other in classes:
                self.assertEqual(issubclass(one, other), one is other)

    def test_fields(self):
        for name, field in WITH_FIELD.items():
            for value in (0, 3, None, 10 ** 30):
                error = getattr(errors, name)(value)
                self.assertEqual(vars(error), {field: value})

    def test_fields_of_raised_errors(self):
        for name, field in WITH_FIELD.items():
            with self.assertRaises(ValueError) as caught:
                raise getattr(errors, name)(2)
            self.assertEqual(getattr(caught.exception, field), 2)

    def test_strings(self):
        for name in WITH_STRING:
            error = getattr(errors, name)("words")
            self.assertEqual(str(error), "words")
            self.assertEqual(vars(error), {})


if __name__ == "__main__":
    unittest.main()
