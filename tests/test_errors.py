import unittest

from cutpaper.errors import BadStep, CutError, NoRow


class Errors(unittest.TestCase):
    def test_any_refusal_is_a_value_error(self):
        self.assertTrue(issubclass(CutError, ValueError))
        self.assertTrue(issubclass(BadStep, CutError))
        self.assertTrue(issubclass(NoRow, CutError))

    def test_neither_refusal_is_under_the_other(self):
        self.assertFalse(issubclass(BadStep, NoRow))
        self.assertFalse(issubclass(NoRow, BadStep))

    def test_bad_step_bears_its_line(self):
        self.assertEqual(BadStep(0).line, 0)
        self.assertEqual(BadStep(19999).line, 19999)

    def test_refusals_are_taken_as_cut_errors(self):
        for error in [BadStep(3), NoRow()]:
            with self.assertRaises(CutError) as taken:
                raise error
            self.assertIs(taken.exception, error)


if __name__ == "__main__":
    unittest.main()
