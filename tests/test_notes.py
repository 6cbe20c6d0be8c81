import copy
import random
import unittest

from cutpaper.errors import BadStep, CutError, NoRow
from cutpaper.notes import read, shown
from cutpaper.rows import tidy
from helper import chance_row, check_apart, check_tidy, small_tidy_rows

WRITTEN = [
    (([(3, 0), (1, 25)], 2), "3 y0 + 1 n12 >= 2"),
    (([], -4), "0 >= -4"),
    (([], 0), "0 >= 0"),
    (([], 1), "0 >= 1"),
    (([(1, 0)], 0), "1 y0 >= 0"),
    (([(1, 1)], -1), "1 n0 >= -1"),
    (([(10, 30)], 100), "10 y15 >= 100"),
    (([(20, 31)], -100), "20 n15 >= -100"),
    (([(1, 2), (2, 5), (3, 20)], 4), "1 y1 + 2 n2 + 3 y10 >= 4"),
    (([(10 ** 18 - 1, 18)], 10 ** 18 - 1), "999999999999999999 y9 >= 999999999999999999"),
    (([(10 ** 17, 19)], 1 - 10 ** 18), "100000000000000000 n9 >= -999999999999999999"),
    (([], -10 ** 17), "0 >= -100000000000000000"),
]
FULL = " + ".join(f"999999999999999999 n{unknown}" for unknown in range(16)) + " >= -999999999999999999"
NINETEEN = "1000000000000000000"


class Shown(unittest.TestCase):
    """Point 12, writing."""

    def test_written_rows(self):
        for row, text in WRITTEN:
            self.assertEqual(shown(row), text)
            self.assertIs(type(shown(row)), str)

    def test_all_unknowns(self):
        self.assertEqual(shown(([(10 ** 18 - 1, 2 * unknown + 1) for unknown in range(16)], 1 - 10 ** 18)), FULL)

    def test_numbers_of_more_figures(self):
        self.assertEqual(shown(([(10 ** 18, 0)], -10 ** 18)), f"{NINETEEN} y0 >= -{NINETEEN}")
        self.assertEqual(shown(([], 10 ** 36 + 5)), "0 >= 1" + "0" * 35 + "5")
        self.assertEqual(shown(([], 12 * 10 ** 35)), "0 >= 12" + "0" * 35)
        # Python's own str refuses this many.
        self.assertEqual(shown(([(10 ** 6000 + 7, 4)], -10 ** 5000)), "1" + "0" * 5999 + "7 y2 >= -1" + "0" * 5000)

    def test_somewhat_beyond_the_bounds(self):
        self.assertEqual(shown(([(1, 32), (2, 39)], 1)), "1 y16 + 2 n19 >= 1")

    def test_row_stays(self):
        row = ([(3, 0), (1, 25)], 2)
        empty = ([], 3)
        shown(row)
        shown(empty)
        self.assertEqual((row, empty), (([(3, 0), (1, 25)], 2), ([], 3)))


class Read(unittest.TestCase):
    """Point 12, reading."""

    def test_written_rows(self):
        for row, text in WRITTEN:
            found = read(text)
            self.assertEqual(found, row)
            check_tidy(self, found)

    def test_all_unknowns(self):
        row = ([(10 ** 18 - 1, 2 * unknown + 1) for unknown in range(16)], 1 - 10 ** 18)
        self.assertEqual(read(FULL), row)

    def test_what_is_shown_is_read(self):
        chance = random.Random(12)
        rows = small_tidy_rows(3, 2, [-11, -1, 0, 1, 2])
        rows += [tidy(chance_row(chance, 16, 16, 10 ** 6, 10 ** 9)) for _ in range(200)]
        rows += [tidy(chance_row(chance, 16, 16, 10 ** 16, 10 ** 17)) for _ in range(200)]
        for row in rows:
            found = read(shown(row))
            check_tidy(self, found)
            self.assertEqual(found, row)

    def test_lists_are_new(self):
        first = read("3 y0 + 1 n12 >= 2")
        check_apart(self, [first, read("3 y0 + 1 n12 >= 2"), read("0 >= 1"), read("0 >= 1")], [])
        kept = copy.deepcopy(first)
        first[0].clear()
        self.assertEqual(read("3 y0 + 1 n12 >= 2"), kept)


class Refused(unittest.TestCase):
    """Point 12, all other texts."""

    def check(self, text):
        with self.assertRaises(NoRow, msg=repr(text)) as taken:
            read(text)
        self.assertIsInstance(taken.exception, CutError)
        self.assertIsInstance(taken.exception, ValueError)
        self.assertNotIsInstance(taken.exception, BadStep)

    def check_term(self, term):
        """A faulty term alone, at the beginning, in the middle and at the end."""
        self.check(f"{term} >= 1")
        self.check(f"{term} + 1 y12 >= 1")
        self.check(f"1 y0 + {term} + 1 y12 >= 1")
        self.check(f"1 y0 + {term} >= 1")

    def test_the_term_that_the_faulty_ones_are_made_of(self):
        for text in ["3 y7 >= 1", "3 y7 + 1 y12 >= 1", "1 y0 + 3 y7 + 1 y12 >= 1", "1 y0 + 3 y7 >= 1"]:
            self.assertEqual(shown(read(text)), text)

    def test_weight(self):
        for weight in ["0", "-0", "-3", "+3", "03", "00", "007", NINETEEN, "1" * 19, "3.0", "3_0", "x", "", "-", "+"]:
            self.check_term(f"{weight} y7")
            self.check_term(f"{weight} n7")

    def test_eighteen_figures_are_read(self):
        self.assertEqual(read("1 y0 + 999999999999999999 y7 >= 1"), ([(1, 0), (10 ** 18 - 1, 14)], 1))

    def test_unknown(self):
        for unknown in [
            "16", "17", "20", "99", "150", "07", "00", "-1", "-0", "+7", "", "y", "7y", "7.", " 7", NINETEEN,
        ]:
            self.check_term(f"3 y{unknown}")
            self.check_term(f"3 n{unknown}")

    def test_letter(self):
        for side in ["Y7", "N7", "x7", "7", "7y", "yy7", "yn7", "ny7", "~y7", "y", "n", "", "z"]:
            self.check_term(f"3 {side}")

    def test_form_of_a_term(self):
        for term in ["3", "y7", "3y7", "3  y7", "3 y 7", " 3 y7", "3 y7 ", "3\ty7", "3\ny7", "3 y7 3 y8", "", " "]:
            self.check_term(term)
        for term in ["3*y7", "3 * y7", "(3 y7)", "3 y7,", "3 y7;", "3 y7 -", "3 y7 -1 y8", "3 y7 - 1 y8"]:
            self.check_term(term)

    def test_unknowns_that_do_not_rise(self):
        for terms in [
            "1 y1 + 1 y0", "1 y0 + 1 y2 + 1 y1", "1 y1 + 1 y0 + 1 y2", "1 y15 + 1 y0", "1 y10 + 1 y9",
            "1 y9 + 1 n10 + 1 y2",
        ]:
            self.check(f"{terms} >= 1")

    def test_unknowns_that_stand_twice(self):
        for one in ["y", "n"]:
            for other in ["y", "n"]:
                self.check(f"1 {one}3 + 1 {other}3 >= 1")
                self.check(f"1 {one}3 + 1 {other}3 + 1 y4 >= 1")
                self.check(f"1 y0 + 1 {one}3 + 1 {other}3 + 1 y4 >= 1")
                self.check(f"1 y0 + 1 {one}3 + 1 {other}3 >= 1")
                self.check(f"1 {one}3 + 1 y4 + 1 {other}3 >= 1")

    def test_least(self):
        for least in [
            "", "-", "-0", "+1", "+0", "01", "00", "-01", "-00", "--1", "- 1", "1-", "1 ", " 1", "1.0", "1_0",
            "x", "1x", "x1", "1 1", NINETEEN, f"-{NINETEEN}", "1" * 19, "-" + "9" * 19, "0" * 19,
            "1\n", "\n1", "1\t", "\t1", "y0",
        ]:
            self.check(f"1 y0 >= {least}")
            self.check(f"0 >= {least}")
            self.check(f"1 y0 + 3 n7 >= {least}")

    def test_between_the_terms(self):
        for between in [
            "+", " +", "+ ", "  + ", " +  ", " ++ ", " + + ", " ", "", "\t+ ", " +\t", " - ", " & ", "\n+ ", ", ",
        ]:
            self.check(f"1 y0{between}3 y7 >= 1")
            self.check(f"1 y0{between}3 y7 + 1 n12 >= 1")
            self.check(f"1 y0 + 3 y7{between}1 n12 >= 1")

    def test_ahead_of_the_least(self):
        for between in [
            ">=", " >=", ">= ", "  >= ", " >=  ", " > ", " = ", " => ", " >>= ", " >== ", " > = ", " <= ",
            "\t>= ", " >=\t", "\n>= ", " >=\n", " ", "", " >= >= ", " >=  >= ", " == ",
        ]:
            self.check(f"1 y0{between}1")
            self.check(f"0{between}1")
            self.check(f"1 y0 + 3 y7{between}-1")

    def test_twice_or_not_at_all(self):
        for text in [
            "1 y0 >= 1 >= 1", "0 >= 0 >= 0", "1 y0 >= 1 y1 >= 1", " >= 1 y0 >= 1", "1 y0 >= 1 >= ", " >= ", ">=",
            " >= 1", ">= 1", "1 y0 >= ", "1 y0", "0", "1", "-4", "1 y0 + 3 y7",
        ]:
            self.check(text)

    def test_nought_and_terms(self):
        for terms in [
            "0 + 1 y0", "1 y0 + 0", "0 1 y0", "0 y0", "0 + 0", "0 0", "00", "-0", "+0", "0 ", " 0", "0 + ", " + 0", "1",
        ]:
            self.check(f"{terms} >= 1")

    def test_something_around_a_text(self):
        for row, text in WRITTEN:
            for sign in [" ", "\t", "\n", "\n\n", "+", "-", "0", "x", "~", "!", "\"", "'"]:
                self.check(sign + text)
            for sign in [
                " ", "\t", "\n", "\n\n", "+", "-", "x", "~", "!", "\"", "'", " + ", " >= ", " >= 1", " + 1 y15",
            ]:
                self.check(text + sign)

    def test_empty_and_blank(self):
        for text in ["", " ", "\n", "\t", "  ", " + ", " >= >= "]:
            self.check(text)

    def test_longest_texts(self):
        for text in ["1" * 1000, " " * 1000, "0 >= " + "1" * 995, " + ".join(["1 y0"] * 140) + " >= 1", " >= " * 250]:
            self.assertLessEqual(len(text), 1000)
            self.check(text)

    def test_one_sign_more_less_or_other(self):
        """What is read nonetheless is written as it was, and else it is refused."""
        signs = "\t\n" + "".join(chr(code) for code in range(ord(" "), ord("~") + 1) if chr(code) != "%")
        many_read = 0
        for text in ["3 y0 + 1 n12 >= 2", "0 >= -4", "10 y1 + 20 n5 + 1 y15 >= -30"]:
            changed = [text[:place] + text[place + 1:] for place in range(len(text))]
            for sign in signs:
                changed += [text[:place] + sign + text[place:] for place in range(len(text) + 1)]
                changed += [text[:place] + sign + text[place + 1:] for place in range(len(text))]
            for other in changed:
                try:
                    row = read(other)
                except NoRow:
                    continue
                many_read += 1
                check_tidy(self, row)
                self.assertEqual(shown(row), other)
        self.assertGreater(many_read, 50)


if __name__ == "__main__":
    unittest.main()
