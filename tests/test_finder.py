import copy
import itertools
import random
import unittest

from cutpaper.finder import clash, find
from cutpaper.papers import shows
from cutpaper.wishes import at_least, at_most, either, just
from helper import (
    chance_rows, check_apart, check_filling, check_paper, fillings, holds_by_words, meeting_by_words,
    rows_against_each_other, small_rows, turned_about,
)

GREAT = 10 ** 6
SIDES = [0, 2, 4, 6, 8, 10, 12, 14]
# The first two and the last cannot be met together; the third asks for nothing that these don't.
THREE_AND_ONE = [([(1, 0)], 1), ([(1, 2)], 1), ([(1, 0), (1, 2)], 1), ([(1, 1), (1, 3)], 1)]


def things_and_places():
    """Three things in two places, as 9 rows over 6 unknowns; unknown 2 * thing + place."""
    rows = []
    for thing in range(3):
        rows += either([4 * thing, 4 * thing + 2])
    for place in range(2):
        for one, other in [(0, 1), (0, 2), (1, 2)]:
            rows += at_most(1, [4 * one + 2 * place, 4 * other + 2 * place])
    return rows


def worst_rows():
    """Lists of rows over 8 unknowns that no filling meets, and that are seen only late to be so."""
    whole = [(weight, 2 * unknown) for unknown, weight in enumerate([2, 4, 6, 8, 10, 12, 14, 16])]
    uneven = [(GREAT - 37 * unknown * unknown, 2 * unknown) for unknown in range(8)]
    found = [just(3, SIDES) + just(5, SIDES), [(whole, 37), turned_about((whole, 38))]]
    found += [[(uneven, least), turned_about((uneven, least))] for least in [3 * GREAT, 4 * GREAT, 5 * GREAT]]
    # An even sum is to be odd, asked ten times in other words: each row turned to other sides.
    for least in [5, 7, 9]:
        rows = []
        for turn in range(10):
            terms = [(2, 2 * unknown + (turn >> (unknown % 4)) % 2) for unknown in range(8)]
            rows += [(terms, least), turned_about((terms, least + 1))]
        found.append(rows)
    return found


class FindTest(unittest.TestCase):
    def check(self, unknowns, rows):
        """What is told is so; gives its first word."""
        before = copy.deepcopy(rows)
        answer = find(unknowns, rows)
        self.assertEqual(rows, before)
        self.assertIs(type(answer), tuple)
        self.assertEqual(len(answer), 2)
        check_apart(self, answer, rows)
        if len(meeting_by_words(unknowns, rows)) == 0:
            self.assertEqual(answer[0], "paper", rows)
            check_paper(self, rows, answer[1])
        else:
            self.assertEqual(answer[0], "filling", rows)
            check_filling(self, unknowns, answer[1])
            for row in rows:
                self.assertTrue(holds_by_words(row, answer[1]), rows)
        return answer[0]


class Find(FindTest):
    """Point 8."""

    def test_one_filling_is_left(self):
        rows = [([(1, 0)], 1), ([(1, 3)], 1), ([(2, 4), (1, 1)], 2)]
        self.assertEqual(find(3, rows), ("filling", [True, False, True]))
        for wanted in fillings(4):
            rows = [([(1, 2 * unknown + (not entry))], 1) for unknown, entry in enumerate(wanted)]
            self.assertEqual(find(4, rows), ("filling", wanted))

    def test_two_rows_against_each_other(self):
        self.assertEqual(self.check(1, [([(1, 0)], 1), ([(1, 1)], 1)]), "paper")

    def test_things_and_places(self):
        rows = things_and_places()
        self.assertEqual(self.check(6, rows), "paper")
        for left_out in range(9):
            self.assertEqual(self.check(6, rows[:left_out] + rows[left_out + 1:]), "filling")

    def test_no_rows_at_all(self):
        for unknowns in range(1, 9):
            self.assertEqual(self.check(unknowns, []), "filling")

    def test_rows_without_terms(self):
        leasts = [(-10 ** 9, "filling"), (-1, "filling"), (0, "filling"), (1, "paper"), (10 ** 9, "paper")]
        for unknowns in [1, 3, 8]:
            for least, told in leasts:
                self.assertEqual(self.check(unknowns, [([], least)]), told)
                self.assertEqual(self.check(unknowns, [([(1, 0)], 1), ([], least)]), told)
                self.assertEqual(self.check(unknowns, [([], -1), ([], least), ([], 0)]), told)

    def test_terms_that_come_to_nothing(self):
        self.assertEqual(self.check(1, [([(0, 0), (0, 1)], 0)]), "filling")
        self.assertEqual(self.check(1, [([(0, 0), (0, 1)], 1)]), "paper")
        self.assertEqual(self.check(2, [([(2, 0), (2, 1), (5, 2), (-5, 2)], 2)]), "filling")
        self.assertEqual(self.check(2, [([(2, 0), (2, 1), (5, 2), (-5, 2)], 3)]), "paper")

    def test_greatest_weights(self):
        terms = [(GREAT, side) for side in SIDES]
        self.assertEqual(find(8, [(terms, 8 * GREAT)]), ("filling", [True] * 8))
        self.assertEqual(self.check(8, [(terms, 8 * GREAT + 1)]), "paper")
        self.assertEqual(self.check(8, [(terms, 8 * GREAT), ([(1, 1)], 1)]), "paper")
        only_great = ([(1, side) for side in SIDES[1:]] + [(GREAT, 0)], GREAT)
        self.assertEqual(self.check(8, [only_great, ([(1, 1), (1, 2)], 1)]), "filling")
        self.assertEqual(self.check(8, [only_great, ([(1, 1)], 1)]), "paper")
        self.assertEqual(self.check(1, [([(GREAT, 0)] * 16, 16 * GREAT)]), "filling")
        self.assertEqual(self.check(1, [([(GREAT, 0)] * 16, 16 * GREAT), ([(-GREAT, 0)] * 16, -15 * GREAT)]), "paper")

    def test_greatest_leasts(self):
        terms = [(GREAT, side) for side in SIDES]
        self.assertEqual(self.check(8, [(terms, 10 ** 9)]), "paper")
        less = [(-weight, side) for weight, side in terms]
        self.assertEqual(self.check(8, [(terms, -10 ** 9), (less, -10 ** 9)]), "filling")
        self.assertEqual(self.check(8, [(less, 10 ** 9)]), "paper")

    def test_weights_below_nought(self):
        self.assertEqual(find(2, [([(-1, 0), (-1, 2)], 0)]), ("filling", [False, False]))
        self.assertEqual(find(2, [([(-3, 1), (-2, 3)], -1)]), ("filling", [True, True]))
        self.assertEqual(self.check(2, [([(-3, 1), (-2, 3)], -1), ([(-1, 0), (-1, 2)], -1)]), "paper")
        self.assertEqual(self.check(1, [([(-1, 0), (-1, 1)], -1)]), "filling")
        self.assertEqual(self.check(1, [([(-1, 0), (-1, 1)], 0)]), "paper")

    def test_a_side_twice_and_both_sides(self):
        self.assertEqual(self.check(1, [([(1, 0), (1, 0)], 2)]), "filling")
        self.assertEqual(self.check(1, [([(1, 0), (1, 0)], 3)]), "paper")
        self.assertEqual(self.check(1, [([(3, 0), (1, 1)], 2), ([(1, 1), (1, 1), (-1, 0)], 1)]), "paper")

    def test_a_row_twice(self):
        row = ([(2, 0), (1, 3)], 2)
        self.assertEqual(self.check(2, [row, row]), "filling")
        self.assertEqual(self.check(2, [row, ([(1, 1)], 1), row, ([(1, 1)], 1)]), "paper")

    def test_unknowns_that_no_row_names(self):
        self.assertEqual(self.check(8, [([(1, 14)], 1)]), "filling")
        self.assertEqual(self.check(8, [([(1, 14)], 1), ([(1, 15)], 1)]), "paper")
        self.assertEqual(self.check(8, [([(1, 6)], 1), ([(1, 7), (1, 10)], 1), ([(1, 7), (1, 11)], 1)]), "paper")

    def test_a_row_and_the_row_turned_about(self):
        chance = random.Random(21)
        for _ in range(60):
            for row in chance_rows(chance, 3, 4, 6, 5, 6):
                self.assertEqual(self.check(3, [row, turned_about(row)]), "paper")

    def test_every_pair_of_small_rows(self):
        rows = small_rows(1, 2, [-1, 2], [-1, 0, 1, 2])
        for one in rows:
            for other in rows[::3]:
                self.check(1, [one, other])

    def test_every_list_of_short_rows(self):
        rows = [([(1, one), (1, other)], 1) for one, other in itertools.combinations_with_replacement(range(4), 2)]
        told = [self.check(2, list(some)) for many in range(5) for some in itertools.combinations(rows, many)]
        self.assertGreater(told.count("paper"), 50)
        self.assertGreater(told.count("filling"), 50)

    def test_many_small_inputs(self):
        chance = random.Random(8)
        told = []
        for _ in range(1500):
            unknowns = chance.randint(1, 4)
            most = chance.choice([1, 2, 5, GREAT])
            told.append(self.check(unknowns, chance_rows(chance, unknowns, 6, 6, most, 2 * most)))
        self.assertGreater(told.count("paper"), 300)
        self.assertGreater(told.count("filling"), 300)

    def test_some_great_inputs(self):
        chance = random.Random(9)
        told = []
        for _ in range(25):
            most = chance.choice([1, 3, 50, GREAT])
            told.append(self.check(8, chance_rows(chance, 8, 20, 16, most, 2 * most)))
            told.append(self.check(8, rows_against_each_other(chance, 8, chance.randint(2, 20), most)))
        self.assertGreater(told.count("paper"), 10)
        self.assertGreater(told.count("filling"), 10)

    def test_worst_inputs(self):
        for rows in worst_rows():
            self.assertLessEqual(len(rows), 20)
            self.assertEqual(self.check(8, rows), "paper")
        chance = random.Random(10)
        for _ in range(10):
            self.check(8, rows_against_each_other(chance, 8, 20, GREAT))

    def test_somewhat_beyond_the_bounds(self):
        chance = random.Random(11)
        for _ in range(5):
            self.check(9, rows_against_each_other(chance, 9, 22, 2 * GREAT))
        terms = [(10 ** 8 + unknown, 2 * unknown) for unknown in range(10)]
        self.assertEqual(self.check(10, [(terms, 5 * 10 ** 8), turned_about((terms, 5 * 10 ** 8))]), "paper")
        self.assertEqual(self.check(2, [([(1, 0)] * 20, 20), ([], -10 ** 12), ([(1, 1), (1, 2)], 1)]), "filling")


class ClashTest(unittest.TestCase):
    def check(self, unknowns, rows):
        """What is told is so; gives the numbers of the rows, or None."""
        before = copy.deepcopy(rows)
        answer = clash(unknowns, rows)
        self.assertEqual(rows, before)
        if len(meeting_by_words(unknowns, rows)) > 0:
            self.assertIsNone(answer, rows)
            return None
        self.assertIs(type(answer), tuple)
        self.assertEqual(len(answer), 3)
        check_apart(self, answer, rows)
        numbers, without_one, paper = answer
        self.check_numbers(rows, numbers)
        self.check_fillings(unknowns, rows, numbers, without_one)
        check_paper(self, [rows[number] for number in numbers], paper)
        return numbers

    def check_numbers(self, rows, numbers):
        self.assertIs(type(numbers), list)
        self.assertEqual(numbers, sorted(set(numbers)))
        for number in numbers:
            self.assertIs(type(number), int)
            self.assertIn(number, range(len(rows)))

    def check_fillings(self, unknowns, rows, numbers, without_one):
        self.assertIs(type(without_one), list)
        self.assertEqual(len(without_one), len(numbers))
        for left_out, filling in zip(numbers, without_one):
            check_filling(self, unknowns, filling)
            for number in numbers:
                # The last one fails too, or the filling would meet all.
                self.assertIs(holds_by_words(rows[number], filling), number != left_out, (rows, numbers, filling))


class Clash(ClashTest):
    """Point 10."""

    def test_rows_that_some_filling_meets(self):
        for rows in [[], [([], 0)], [([(1, 0)], 1)], THREE_AND_ONE[1:], [([(1, 0)], 1), ([(1, 0)], 1)]]:
            self.assertIsNone(self.check(2, rows))

    def test_no_row_too_many(self):
        rows = [([(1, 4)], 1), ([(1, 0)], 1), ([(1, 2)], 0), ([(1, 1)], 1), ([], -1)]
        self.assertEqual(self.check(3, rows), [1, 3])
        self.assertEqual(self.check(2, THREE_AND_ONE), [0, 1, 3])

    def test_all_rows_are_needed(self):
        self.assertEqual(self.check(6, things_and_places()), list(range(9)))
        rows = [([(1, side)], 1) for side in SIDES] + [([(1, side + 1) for side in SIDES], 1)]
        self.assertEqual(self.check(8, rows), list(range(9)))
        self.assertEqual(self.check(8, rows[::-1]), list(range(9)))

    def test_needed_rows_among_others(self):
        rows = []
        for row in things_and_places():
            rows += [row, ([(1, side) for side in range(12)], 3)]
        self.assertEqual(self.check(6, rows), list(range(0, 18, 2)))

    def test_one_row_alone(self):
        for row in [([], 1), ([(1, 0)], 2), ([(2, 0), (2, 1)], 3), ([(-1, 0), (-1, 1)], 0), ([(GREAT, 0)], 10 ** 9)]:
            self.assertEqual(self.check(1, [row]), [0])
            self.assertEqual(self.check(2, [([(1, 0)], 1), ([(1, 2)], 1), row, ([(1, 3)], 0)]), [2])

    def test_one_row_alone_beside_a_clash_of_two(self):
        rows = [([(1, 0)], 1), ([(1, 1)], 1), ([], 1)]
        for order in itertools.permutations(rows):
            self.assertIn(len(self.check(1, list(order))), [1, 2])

    def test_several_clashes(self):
        rows = [([(1, 0)], 1), ([(1, 1)], 1), ([(1, 2)], 1), ([(1, 3)], 1)]
        for order in itertools.permutations(rows):
            self.assertEqual(len(self.check(2, list(order))), 2)
        rows = THREE_AND_ONE + [([(1, 1)], 1), ([(1, 3)], 1)]
        for order in itertools.permutations(rows):
            self.assertIn(len(self.check(2, list(order))), [2, 3])

    def test_rows_that_are_alike_are_two_rows(self):
        alone = ([], 1)
        self.assertEqual(len(self.check(1, [alone, alone])), 1)
        yes = ([(1, 0)], 1)
        no = ([(1, 1)], 1)
        for order in itertools.permutations([yes, yes, no, no]):
            found = self.check(1, list(order))
            self.assertEqual(len(found), 2)
            self.assertNotEqual(order[found[0]], order[found[1]])
        self.assertEqual(len(self.check(8, worst_rows()[0] * 2)), len(self.check(8, worst_rows()[0])))

    def test_a_row_and_the_row_turned_about(self):
        chance = random.Random(22)
        for _ in range(40):
            for row in chance_rows(chance, 3, 3, 6, 5, 6):
                self.check(3, [row, turned_about(row), row])

    def test_every_list_of_short_rows(self):
        rows = [([(1, one), (1, other)], 1) for one, other in itertools.combinations_with_replacement(range(4), 2)]
        found = [self.check(2, list(some)) for many in range(5) for some in itertools.combinations(rows, many)]
        self.assertEqual(set(len(numbers) for numbers in found if numbers is not None), {2, 3, 4})

    def test_many_small_inputs(self):
        chance = random.Random(18)
        clashes = 0
        for _ in range(1200):
            unknowns = chance.randint(1, 4)
            most = chance.choice([1, 2, 5, GREAT])
            if self.check(unknowns, chance_rows(chance, unknowns, 6, 6, most, most)) is not None:
                clashes += 1
        self.assertGreater(clashes, 200)

    def test_some_great_inputs(self):
        chance = random.Random(19)
        clashes = 0
        for _ in range(12):
            most = chance.choice([1, 3, 50, GREAT])
            if self.check(8, chance_rows(chance, 8, 20, 16, most, 2 * most)) is not None:
                clashes += 1
            if self.check(8, rows_against_each_other(chance, 8, 20, most)) is not None:
                clashes += 1
        self.assertGreater(clashes, 5)
        for rows in worst_rows():
            self.assertIsNotNone(self.check(8, rows))

    def test_somewhat_beyond_the_bounds(self):
        rows = [([(1, 2 * unknown)], 1) for unknown in range(9)] + [([(1, 2 * unknown + 1) for unknown in range(9)], 1)]
        self.assertEqual(self.check(9, rows + [([(1, 0)] * 20, -5)] * 12), list(range(10)))


class Apart(unittest.TestCase):
    """Point 1, over finding."""

    MET = (3, [([(1, 0), (1, 2)], 1), ([(-1, 4)], 0)])
    UNMET = (3, [([(1, 0), (1, 2)], 2), ([(1, 5)], 1), ([(1, 1)], 1)])

    def spoil(self, value):
        if isinstance(value, (list, tuple)):
            for part in value:
                self.spoil(part)
        if isinstance(value, list):
            value.append("spoilt")

    def test_a_second_call_answers_alike(self):
        for call in [find, clash]:
            for unknowns, rows in [self.MET, self.UNMET, (8, worst_rows()[0]), (2, []), (1, [([], 1)])]:
                handed_in = copy.deepcopy(rows)
                first = call(unknowns, handed_in)
                kept = copy.deepcopy(first)
                self.spoil(first)
                self.assertEqual(handed_in, rows)
                self.assertEqual(call(unknowns, handed_in), kept)

    def test_later_changes_of_rows_change_no_answer(self):
        for call in [find, clash]:
            for unknowns, rows in [self.MET, self.UNMET]:
                handed_in = copy.deepcopy(rows)
                first = call(unknowns, handed_in)
                kept = copy.deepcopy(first)
                self.spoil(handed_in)
                self.assertEqual(first, kept)

    def test_fillings_of_a_clash_are_apart(self):
        numbers, without_one, paper = clash(*self.UNMET)
        kept = copy.deepcopy(without_one)
        without_one[0].clear()
        self.assertEqual(without_one[1:], kept[1:])
        self.assertTrue(shows([self.UNMET[1][number] for number in numbers], paper))

    def test_one_list_for_several_rows(self):
        terms = [(1, 0), (1, 2)]
        rows = [(terms, 1), (terms, 2), ([(-1, 0)], 0)]
        check_apart(self, [find(2, rows), clash(2, rows), find(2, rows[:2]), find(2, rows[:2])], rows)
        self.assertEqual(terms, [(1, 0), (1, 2)])

    def test_wishes_are_found(self):
        self.assertEqual(find(3, at_least(3, [0, 2, 5])), ("filling", [True, True, False]))
        self.assertEqual(find(3, just(0, [0, 2, 5])), ("filling", [False, False, True]))


if __name__ == "__main__":
    unittest.main()
