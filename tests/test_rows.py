import copy
import random
import unittest

from cutpaper.rows import added, cut, holds, sized, tidy, times
from helper import (
    chance_row, check_apart, check_row_form, check_tidy, fillings, holds_by_words, small_rows, small_tidy_rows,
)

GREAT = 10 ** 18


class Holds(unittest.TestCase):
    """Points 1 and 2."""

    def test_sides_are_met_by_yes_and_by_no(self):
        self.assertIs(holds(([(1, 0)], 1), [True]), True)
        self.assertIs(holds(([(1, 0)], 1), [False]), False)
        self.assertIs(holds(([(1, 1)], 1), [True]), False)
        self.assertIs(holds(([(1, 1)], 1), [False]), True)

    def test_first_entry_is_unknown_nought(self):
        self.assertIs(holds(([(1, 2)], 1), [False, True]), True)
        self.assertIs(holds(([(1, 2)], 1), [True, False]), False)
        self.assertIs(holds(([(1, 3)], 1), [True, False]), True)

    def test_least_or_more(self):
        row = ([(3, 0), (1, 3), (2, 4)], 4)
        self.assertIs(holds(row, [True, True, True]), True)
        self.assertIs(holds(row, [True, False, False]), True)
        self.assertIs(holds(row, [True, True, False]), False)
        self.assertIs(holds(row, [False, False, True]), False)

    def test_no_terms(self):
        for filling in [[], [True], [False, True]]:
            self.assertIs(holds(([], 0), filling), True)
            self.assertIs(holds(([], -1), filling), True)
            self.assertIs(holds(([], 1), filling), False)

    def test_filling_with_more_entries(self):
        row = ([(2, 0), (1, 3)], 3)
        for rest in fillings(3):
            self.assertIs(holds(row, [True, False] + rest), True)
            self.assertIs(holds(row, [True, True] + rest), False)

    def test_a_side_more_than_once(self):
        self.assertIs(holds(([(2, 0), (2, 0)], 4), [True]), True)
        self.assertIs(holds(([(2, 0), (2, 0)], 5), [True]), False)
        self.assertIs(holds(([(2, 1), (-1, 1), (2, 1)], 3), [False]), True)
        self.assertIs(holds(([(2, 1), (-1, 1), (2, 1)], 4), [False]), False)

    def test_both_sides_of_one_unknown(self):
        row = ([(2, 0), (5, 1)], 5)
        self.assertIs(holds(row, [True]), False)
        self.assertIs(holds(row, [False]), True)

    def test_negative_weights(self):
        row = ([(-2, 0), (-3, 3)], -2)
        self.assertIs(holds(row, [True, True]), True)
        self.assertIs(holds(row, [False, False]), False)
        self.assertIs(holds(row, [False, True]), True)
        self.assertIs(holds(row, [True, False]), False)

    def test_last_unknown(self):
        for last in [True, False]:
            filling = [not last] * 15 + [last]
            self.assertIs(holds(([(1, 30)], 1), filling), last)
            self.assertIs(holds(([(1, 31)], 1), filling), not last)

    def test_greatest_numbers(self):
        row = ([(10 ** 6, side) for side in range(0, 32, 2)], 16 * 10 ** 6)
        self.assertIs(holds(row, [True] * 16), True)
        self.assertIs(holds(row, [True] * 15 + [False]), False)
        self.assertIs(holds(([(-10 ** 6, 0)], -10 ** 9), [True]), True)
        self.assertIs(holds(([(10 ** 6, 0)], 10 ** 9), [True]), False)

    def test_rows_of_other_rows_bear_greater_numbers(self):
        row = ([(GREAT ** 3, 0), (1, 2)], GREAT ** 3 + 1)
        self.assertIs(holds(row, [True, True]), True)
        self.assertIs(holds(row, [True, False]), False)

    def test_somewhat_beyond_the_bounds(self):
        row = ([(1, side) for side in range(0, 36, 2)], 18)
        self.assertIs(holds(row, [True] * 18), True)
        self.assertIs(holds(row, [True] * 17 + [False]), False)
        self.assertIs(holds(([(10 ** 7, 0)], 10 ** 7), [True]), True)

    def test_every_small_row_by_every_filling(self):
        for row in small_rows(2, 2, [-2, 0, 1, 3], [-2, 0, 1, 3]):
            for filling in fillings(2):
                self.assertIs(holds(row, filling), holds_by_words(row, filling), (row, filling))

    def test_nothing_is_changed(self):
        row = ([(3, 4), (-1, 0), (2, 4)], 2)
        filling = [True, False, True]
        before = copy.deepcopy((row, filling))
        holds(row, filling)
        self.assertEqual((row, filling), before)


class Tidy(unittest.TestCase):
    """Point 3."""

    def test_yes_is_more(self):
        self.assertEqual(tidy(([(5, 0), (2, 1)], 4)), ([(3, 0)], 2))

    def test_no_is_more(self):
        self.assertEqual(tidy(([(2, 0), (5, 1)], 4)), ([(3, 1)], 2))

    def test_as_many_on_both_sides(self):
        self.assertEqual(tidy(([(4, 0), (4, 1)], 4)), ([], 0))
        self.assertEqual(tidy(([(4, 2), (1, 0), (4, 3)], 5)), ([(1, 0)], 1))
        self.assertEqual(tidy(([(-4, 0), (-4, 1)], -5)), ([], -1))

    def test_weights_of_a_side_come_together(self):
        self.assertEqual(tidy(([(2, 3), (1, 2), (2, 3), (1, 2), (1, 2)], 0)), ([(1, 3)], -3))
        self.assertEqual(tidy(([(2, 0), (-2, 0)], 1)), ([], 1))

    def test_negative_weights(self):
        self.assertEqual(tidy(([(-3, 0)], 0)), ([(3, 1)], 3))
        self.assertEqual(tidy(([(-3, 1)], 0)), ([(3, 0)], 3))
        self.assertEqual(tidy(([(-3, 0), (-1, 1)], -2)), ([(2, 1)], 1))
        self.assertEqual(tidy(([(-3, 0), (2, 1)], 0)), ([(5, 1)], 3))
        self.assertEqual(tidy(([(3, 0), (-2, 1)], 0)), ([(5, 0)], 2))

    def test_weight_of_nought(self):
        self.assertEqual(tidy(([(0, 0), (0, 5), (1, 2)], 1)), ([(1, 2)], 1))

    def test_terms_stand_by_rising_unknowns(self):
        row = ([(1, 31), (2, 4), (3, 21), (4, 0), (5, 3)], 7)
        self.assertEqual(tidy(row), ([(4, 0), (5, 3), (2, 4), (3, 21), (1, 31)], 7))

    def test_no_terms(self):
        for least in [-4, 0, 1]:
            self.assertEqual(tidy(([], least)), ([], least))

    def test_first_and_last_side(self):
        self.assertEqual(tidy(([(1, 31), (1, 0)], 2)), ([(1, 0), (1, 31)], 2))
        self.assertEqual(tidy(([(1, 31), (3, 30)], 2)), ([(2, 30)], 1))

    def test_tidy_row_stays(self):
        for row in small_tidy_rows(2, 2, [-1, 0, 1, 2]) + [([(GREAT ** 2, 0), (1, 31)], -GREAT ** 2)]:
            self.assertEqual(tidy(row), row)
            check_apart(self, tidy(row), row)

    def test_greatest_numbers(self):
        row = ([(10 ** 6, 0)] * 8 + [(-10 ** 6, 1)] * 8, 10 ** 9)
        self.assertEqual(tidy(row), ([(16 * 10 ** 6, 0)], 10 ** 9 + 8 * 10 ** 6))

    def test_somewhat_beyond_the_bounds(self):
        row = ([(1, side) for side in range(39, -1, -1)] + [(1, 38)], 10 ** 10)
        self.assertEqual(tidy(row), ([(1, 38)], 10 ** 10 - 20))

    def test_every_small_row_by_every_filling(self):
        for row in small_rows(2, 3, [-2, -1, 0, 1, 3], [-3, 0, 1, 2]):
            before = copy.deepcopy(row)
            tidied = tidy(row)
            check_tidy(self, tidied)
            self.assertEqual(row, before)
            for filling in fillings(2):
                self.assertIs(holds(tidied, filling), holds_by_words(row, filling), (row, filling))

    def test_longer_rows_by_every_filling(self):
        chance = random.Random(3)
        for _ in range(200):
            row = chance_row(chance, 5, 16, 9, 30)
            tidied = tidy(row)
            check_tidy(self, tidied)
            for filling in fillings(5):
                self.assertIs(holds(tidied, filling), holds_by_words(row, filling), (row, filling))

    def test_nothing_is_changed_and_lists_are_new(self):
        row = ([(3, 4), (-1, 0), (2, 4)], 2)
        before = copy.deepcopy(row)
        first = tidy(row)
        second = tidy(row)
        self.assertEqual(row, before)
        check_apart(self, [first, second], row)
        first[0].clear()
        self.assertEqual(tidy(row), second)
        row[0].clear()
        self.assertEqual(second, ([(1, 1), (5, 4)], 3))


class Added(unittest.TestCase):
    """Point 4, sums."""

    def test_terms_and_leasts_together(self):
        self.assertEqual(added(([(1, 0)], 1), ([(2, 3)], 2)), ([(1, 0), (2, 3)], 3))
        self.assertEqual(added(([(2, 3)], 2), ([(1, 0)], -5)), ([(1, 0), (2, 3)], -3))
        self.assertEqual(added(([(2, 3)], 2), ([(1, 3)], 1)), ([(3, 3)], 3))

    def test_sides_against_each_other(self):
        self.assertEqual(added(([(1, 0)], 1), ([(1, 1)], 1)), ([], 1))
        self.assertEqual(added(([(5, 0)], 1), ([(2, 1)], 1)), ([(3, 0)], 0))
        self.assertEqual(added(([(2, 30)], 1), ([(5, 31)], 1)), ([(3, 31)], 0))

    def test_no_terms(self):
        self.assertEqual(added(([], -1), ([], 3)), ([], 2))
        self.assertEqual(added(([], -1), ([(4, 31)], 3)), ([(4, 31)], 2))

    def test_a_row_and_itself(self):
        row = ([(1, 0), (2, 3)], 2)
        self.assertEqual(added(row, row), ([(2, 0), (4, 3)], 4))
        self.assertEqual(row, ([(1, 0), (2, 3)], 2))

    def test_great_numbers(self):
        one = ([(GREAT ** 2 + 1, 0)], -GREAT ** 2)
        other = ([(GREAT ** 2, 1)], GREAT ** 2)
        self.assertEqual(added(one, other), ([(1, 0)], -GREAT ** 2))

    def test_small_rows_by_every_filling(self):
        rows = small_tidy_rows(2, 2, [-1, 1, 2])
        for one in rows:
            for other in rows:
                both = added(one, other)
                check_tidy(self, both)
                self.assertEqual(both, tidy((one[0] + other[0], one[1] + other[1])))
                for filling in fillings(2):
                    if holds_by_words(one, filling) and holds_by_words(other, filling):
                        self.assertIs(holds(both, filling), True, (one, other, filling))


class Times(unittest.TestCase):
    """Point 4, a row times a number."""

    def test_weights_and_least(self):
        self.assertEqual(times(([(1, 0), (2, 3)], 2), 3), ([(3, 0), (6, 3)], 6))
        self.assertEqual(times(([(1, 31)], -2), 5), ([(5, 31)], -10))
        self.assertEqual(times(([(7, 0)], 0), 2), ([(14, 0)], 0))

    def test_by_one(self):
        row = ([(1, 0), (2, 3)], -2)
        self.assertEqual(times(row, 1), row)

    def test_no_terms(self):
        self.assertEqual(times(([], 2), 4), ([], 8))
        self.assertEqual(times(([], -2), 4), ([], -8))

    def test_great_numbers(self):
        once = times(([(3, 0), (1, 31)], -2), GREAT)
        self.assertEqual(once, ([(3 * GREAT, 0), (GREAT, 31)], -2 * GREAT))
        self.assertEqual(times(once, GREAT), ([(3 * GREAT ** 2, 0), (GREAT ** 2, 31)], -2 * GREAT ** 2))
        self.assertEqual(times(([(1, 0)], 1), 10 ** 19), ([(10 ** 19, 0)], 10 ** 19))

    def test_small_rows_by_every_filling(self):
        for row in small_tidy_rows(2, 3, [-2, 0, 1, 3]):
            for number in [1, 2, 5]:
                more = times(row, number)
                check_tidy(self, more)
                for filling in fillings(2):
                    self.assertIs(holds(more, filling), holds_by_words(row, filling))


class Cut(unittest.TestCase):
    """Point 4, a row cut by a number."""

    def test_rounded_up(self):
        self.assertEqual(cut(([(2, 0), (3, 3), (4, 4), (1, 7)], 5), 2), ([(1, 0), (2, 3), (2, 4), (1, 7)], 3))
        self.assertEqual(cut(([(6, 0), (7, 2)], 6), 3), ([(2, 0), (3, 2)], 2))

    def test_least_below_nought_is_rounded_up(self):
        leasts = [-7, -6, -5, -4, -3, -2, -1, 0, 1, 2, 3, 4]
        thirds = [-2, -2, -1, -1, -1, 0, 0, 0, 1, 1, 1, 2]
        for least, third in zip(leasts, thirds):
            self.assertEqual(cut(([(1, 0)], least), 3), ([(1, 0)], third))

    def test_by_one(self):
        row = ([(1, 0), (2, 3)], -2)
        self.assertEqual(cut(row, 1), row)

    def test_no_terms(self):
        self.assertEqual(cut(([], 5), 2), ([], 3))
        self.assertEqual(cut(([], -5), 2), ([], -2))
        self.assertEqual(cut(([], 1), GREAT), ([], 1))

    def test_great_numbers(self):
        row = ([(GREAT + 1, 0), (GREAT, 3), (1, 31)], -GREAT - 1)
        self.assertEqual(cut(row, GREAT), ([(2, 0), (1, 3), (1, 31)], -1))
        row = ([(GREAT ** 3 + 1, 0)], GREAT ** 3 + 1)
        self.assertEqual(cut(row, GREAT), ([(GREAT ** 2 + 1, 0)], GREAT ** 2 + 1))
        row = ([(GREAT ** 3 - 1, 0)], -GREAT ** 3 - 1)
        self.assertEqual(cut(row, GREAT), ([(GREAT ** 2, 0)], -GREAT ** 2))
        self.assertEqual(cut(([(1, 0)], 10 ** 20), 10 ** 19), ([(1, 0)], 10))

    def test_small_rows_by_every_filling(self):
        for row in small_tidy_rows(2, 4, [-5, -4, -1, 0, 1, 2, 3, 5]):
            for number in [1, 2, 3, 9]:
                less = cut(row, number)
                check_tidy(self, less)
                for filling in fillings(2):
                    if holds_by_words(row, filling):
                        self.assertIs(holds(less, filling), True, (row, number, filling))


class Sized(unittest.TestCase):
    """Point 4, sized rows."""

    def test_weights_above_the_least(self):
        self.assertEqual(sized(([(3, 0), (2, 3), (1, 4)], 2)), ([(2, 0), (2, 3), (1, 4)], 2))
        self.assertEqual(sized(([(3, 0), (2, 31)], 1)), ([(1, 0), (1, 31)], 1))

    def test_nothing_above_the_least(self):
        row = ([(3, 0), (2, 3)], 3)
        self.assertEqual(sized(row), row)

    def test_least_of_nought_and_below(self):
        for least in [0, -1, -10]:
            row = ([(3, 0), (2, 3)], least)
            self.assertEqual(sized(row), row)
            check_apart(self, sized(row), row)

    def test_no_terms(self):
        for least in [-1, 0, 1, 2]:
            self.assertEqual(sized(([], least)), ([], least))

    def test_great_numbers(self):
        row = ([(GREAT ** 2 + 1, 0), (GREAT ** 2, 3), (1, 31)], GREAT ** 2)
        self.assertEqual(sized(row), ([(GREAT ** 2, 0), (GREAT ** 2, 3), (1, 31)], GREAT ** 2))

    def test_small_rows_by_every_filling(self):
        for row in small_tidy_rows(2, 4, [-2, 0, 1, 2, 3, 5]):
            less = sized(row)
            check_tidy(self, less)
            for filling in fillings(2):
                self.assertIs(holds(less, filling), holds_by_words(row, filling), (row, filling))


class Apart(unittest.TestCase):
    """Point 1, over the rows that come of tidy rows."""

    CALLS = [
        lambda row: added(row, row),
        lambda row: added(row, ([], 0)),
        lambda row: added(([], 0), row),
        lambda row: times(row, 1),
        lambda row: times(row, 2),
        lambda row: cut(row, 1),
        lambda row: cut(row, 2),
        lambda row: sized(row),
    ]
    LEASTS = [-1, 0, 1, 9]

    def test_rows_stay_and_lists_are_new(self):
        for call in self.CALLS:
            for least in self.LEASTS:
                row = ([(3, 0), (2, 3)], least)
                first = call(row)
                second = call(row)
                self.assertEqual(row, ([(3, 0), (2, 3)], least))
                check_row_form(self, first)
                check_apart(self, [first, second], row)

    def test_later_changes_change_nothing(self):
        for call in self.CALLS:
            for least in self.LEASTS:
                row = ([(3, 0), (2, 3)], least)
                first = call(row)
                kept = copy.deepcopy(first)
                second = call(row)
                second[0].append((9, 30))
                self.assertEqual(call(row), kept)
                row[0].clear()
                self.assertEqual(first, kept)


if __name__ == "__main__":
    unittest.main()
