import copy
import random
import unittest

from cutpaper.worth import best, worth
from helper import (
    chance_row, chance_rows, check_apart, check_filling, check_paper, fillings, holds_by_words, meeting_by_words,
    rows_against_each_other, small_rows, turned_about, worth_by_words,
)

GREAT = 10 ** 6


class Worth(unittest.TestCase):
    """Point 9, the worth of a filling."""

    def test_sides_that_are_met(self):
        terms = [(3, 0), (5, 3), (-2, 4)]
        self.assertEqual(worth(terms, [True, True, False]), 3)
        self.assertEqual(worth(terms, [True, False, True]), 6)
        self.assertEqual(worth(terms, [False, True, True]), -2)
        self.assertEqual(worth(terms, [False, True, False]), 0)

    def test_no_terms(self):
        for filling in fillings(3):
            self.assertEqual(worth([], filling), 0)
            self.assertIs(type(worth([], filling)), int)

    def test_a_side_twice_and_both_sides(self):
        self.assertEqual(worth([(2, 0), (2, 0), (1, 1)], [True]), 4)
        self.assertEqual(worth([(2, 0), (2, 0), (1, 1)], [False]), 1)

    def test_every_small_list_by_every_filling(self):
        for terms, least in small_rows(2, 3, [-2, 0, 1, 3], [0]):
            before = list(terms)
            for filling in fillings(2):
                found = worth(terms, filling)
                self.assertEqual(found, worth_by_words(terms, filling))
                self.assertIs(type(found), int)
            self.assertEqual(terms, before)

    def test_greatest_numbers(self):
        self.assertEqual(worth([(GREAT, 0)] * 16, [True]), 16 * GREAT)
        self.assertEqual(worth([(-GREAT, 1)] * 16, [False]), -16 * GREAT)

    def test_somewhat_beyond_the_bounds(self):
        self.assertEqual(worth([(2 * GREAT, 35)] * 20, [True] * 17 + [False]), 40 * GREAT)


class BestTest(unittest.TestCase):
    def check(self, unknowns, rows, terms):
        """What is told is so; gives the worth, or None where no filling meets all rows."""
        before = copy.deepcopy((rows, terms))
        answer = best(unknowns, rows, terms)
        self.assertEqual((rows, terms), before)
        self.assertIs(type(answer), tuple)
        check_apart(self, answer, [rows, terms])
        met = meeting_by_words(unknowns, rows)
        if len(met) == 0:
            self.assertEqual(answer[0], "none")
            self.assertEqual(len(answer), 2)
            check_paper(self, rows, answer[1])
            return None
        self.assertEqual(answer[0], "best")
        self.assertEqual(len(answer), 4)
        first_word, filling, most, paper = answer
        check_filling(self, unknowns, filling)
        for row in rows:
            self.assertTrue(holds_by_words(row, filling))
        self.assertIs(type(most), int)
        self.assertEqual(most, worth_by_words(terms, filling))
        self.assertEqual(most, max(worth_by_words(terms, one) for one in met))
        check_paper(self, rows + [(terms, most + 1)], paper)
        return most


class Best(BestTest):
    """Point 9, the best filling."""

    def test_ordinary(self):
        rows = [([(-2, 0), (-3, 2), (-4, 4)], -5)]
        terms = [(3, 0), (4, 2), (5, 4)]
        self.assertEqual(best(3, rows, terms)[:3], ("best", [True, True, False], 7))
        self.assertEqual(self.check(3, rows, terms), 7)

    def test_no_rows_at_all(self):
        self.assertEqual(self.check(1, [], [(1, 0)]), 1)
        self.assertEqual(self.check(1, [], [(1, 1)]), 1)
        self.assertEqual(self.check(8, [], [(1, side) for side in range(16)]), 8)
        self.assertEqual(self.check(8, [], [(unknown + 1, 2 * unknown + 1) for unknown in range(8)]), 36)

    def test_no_terms(self):
        self.assertEqual(self.check(1, [], []), 0)
        self.assertEqual(self.check(3, [([(1, 0), (1, 3)], 2)], []), 0)
        self.assertIsNone(self.check(1, [([(1, 0)], 1), ([(1, 1)], 1)], []))

    def test_worth_below_nought(self):
        self.assertEqual(self.check(1, [], [(-1, 0), (-2, 1)]), -1)
        self.assertEqual(self.check(2, [([(1, 0), (1, 2)], 1)], [(-3, 0), (-2, 2)]), -2)
        self.assertEqual(self.check(8, [], [(-GREAT, side) for side in range(16)]), -8 * GREAT)

    def test_worth_of_nought(self):
        self.assertEqual(self.check(2, [], [(-1, 0), (-1, 3)]), 0)
        self.assertEqual(self.check(1, [], [(0, 0), (0, 1)]), 0)

    def test_no_filling_meets_all_rows(self):
        self.assertIsNone(self.check(1, [([], 1)], [(1, 0)]))
        self.assertIsNone(self.check(2, [([(1, 0), (1, 2)], 2), ([(1, 1)], 1)], [(1, 0), (1, 2)]))
        row = ([(3, 0), (2, 3), (-1, 4)], 2)
        self.assertIsNone(self.check(3, [row, turned_about(row)], [(1, 4)]))

    def test_one_filling_is_left(self):
        for wanted in fillings(3):
            rows = [([(1, 2 * unknown + (not entry))], 1) for unknown, entry in enumerate(wanted)]
            self.check(3, rows, [(1, 0), (-2, 1), (3, 2), (5, 5)])
            self.assertEqual(best(3, rows, [])[1], wanted)

    def test_every_filling_is_better_than_the_last(self):
        for letter in [0, 1]:
            for sign in [1, -1]:
                terms = [(sign * 2 ** (7 - unknown), 2 * unknown + letter) for unknown in range(8)]
                self.assertEqual(self.check(8, [], terms), 255 if sign == 1 else 0)
                self.check(8, [], terms[::-1] + [(1, 0)])

    def test_a_side_twice_and_both_sides(self):
        self.assertEqual(self.check(1, [], [(2, 0), (2, 0), (3, 1)]), 4)
        self.assertEqual(self.check(1, [], [(2, 0), (1, 0), (4, 1), (-4, 0)]), 4)
        self.assertEqual(self.check(1, [], [(GREAT, 0)] * 16), 16 * GREAT)

    def test_terms_that_a_row_has_too(self):
        terms = [(1, 0), (1, 2)]
        self.assertEqual(self.check(2, [(terms, 1), ([(-1, 0), (-1, 2)], -1)], terms), 1)

    def test_every_small_row_and_small_terms(self):
        rows = small_rows(1, 2, [-1, 2], [0, 1, 2])
        for row in rows:
            for terms in [[], [(1, 0)], [(-2, 0)], [(1, 1), (-1, 0)], [(2, 0), (2, 1)]]:
                self.check(1, [row], terms)

    def test_many_small_inputs(self):
        chance = random.Random(31)
        found = []
        for _ in range(1200):
            unknowns = chance.randint(1, 4)
            most = chance.choice([1, 2, 5, GREAT])
            rows = chance_rows(chance, unknowns, 6, 6, most, 2 * most)
            found.append(self.check(unknowns, rows, chance_row(chance, unknowns, 8, most, 0)[0]))
        self.assertGreater(found.count(None), 200)
        self.assertGreater(len([most for most in found if most is not None and most < 0]), 20)
        self.assertGreater(len([most for most in found if most is not None and most > 0]), 200)

    def test_some_great_inputs(self):
        chance = random.Random(32)
        found = []
        for _ in range(15):
            most = chance.choice([1, 3, 50, GREAT])
            terms = chance_row(chance, 8, 16, most, 0)[0]
            found.append(self.check(8, chance_rows(chance, 8, 20, 16, most, 2 * most), terms))
            found.append(self.check(8, rows_against_each_other(chance, 8, 20, most), terms))
            found.append(self.check(8, rows_against_each_other(chance, 8, 3, most), terms))
        self.assertGreater(found.count(None), 5)
        self.assertGreater(len(found) - found.count(None), 5)

    def test_somewhat_beyond_the_bounds(self):
        rows = [([(-1, 2 * unknown) for unknown in range(9)], -4)] * 22
        self.assertEqual(self.check(9, rows, [(10 ** 7, 2 * unknown) for unknown in range(9)] * 2), 8 * 10 ** 7)


class Apart(unittest.TestCase):
    """Point 1, over the best filling."""

    INPUTS = [
        (2, [([(1, 0), (1, 2)], 1)], [(1, 0), (-1, 2)]),
        (1, [([(1, 0)], 1), ([(1, 1)], 1)], [(1, 0)]),
        (2, [], []),
    ]

    def test_a_second_call_answers_alike(self):
        for unknowns, rows, terms in self.INPUTS:
            handed_in = copy.deepcopy((rows, terms))
            first = best(unknowns, *handed_in)
            kept = copy.deepcopy(first)
            for part in first:
                if isinstance(part, list):
                    part.clear()
            self.assertEqual(handed_in, (rows, terms))
            self.assertEqual(best(unknowns, *handed_in), kept)

    def test_later_changes_of_rows_and_terms_change_no_answer(self):
        for unknowns, rows, terms in self.INPUTS:
            handed_in = copy.deepcopy((rows, terms))
            first = best(unknowns, *handed_in)
            kept = copy.deepcopy(first)
            for row in handed_in[0]:
                row[0].clear()
            handed_in[0].clear()
            handed_in[1].append((9, 0))
            self.assertEqual(first, kept)


if __name__ == "__main__":
    unittest.main()
