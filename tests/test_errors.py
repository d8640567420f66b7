import unittest

from duehall import errors

NAMES = ("NoZone", "NoPlan", "NoMoment", "NoCount", "NoDeeds", "NoDeed", "NoRunner", "NoTerm", "NotHolder",
         "Nothing", "NoCall", "NoText", "NoWidth", "NoHolds")


class Errors(unittest.TestCase):
    def refusals(self):
        return [getattr(errors, name) for name in NAMES]

    def test_due_error_is_a_value_error(self):
        self.assertTrue(issubclass(errors.DueError, ValueError))
        self.assertIsNot(errors.DueError, ValueError)

    def test_each_refusal_is_a_due_error_and_a_value_error(self):
        for refusal in self.refusals():
            with self.subTest(refusal):
                self.assertIsNot(refusal, errors.DueError)
                with self.assertRaises(errors.DueError):
                    raise refusal("words")
                with self.assertRaises(ValueError):
                    raise refusal("words")

    def test_no_refusal_is_another_one(self):
        for one in self.refusals():
            others = [other for other in self.refusals() if issubclass(one, other)]
            self.assertEqual(others, [one])

    def test_each_bears_its_name(self):
        self.assertEqual([refusal.__name__ for refusal in self.refusals()], list(NAMES))


if __name__ == "__main__":
    unittest.main()
