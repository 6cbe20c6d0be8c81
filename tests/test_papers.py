import copy
import random
import unittest

from cutpaper.errors import BadStep, CutError, NoRow
from cutpaper.papers import lines, shows
from helper import chance_row, check_apart, check_tidy, fillings, holds_by_words

GREAT = 10 ** 18

# Three things in two places: each is somewhere, and no two of them share a place.
# Unknown 2 * thing + place is yes where the thing is in the place.
PLACES = [([(1, 4 * thing), (1, 4 * thing + 2)], 1) for thing in range(3)]
PLACES += [
    ([(1, 4 * one + 2 * place + 1), (1, 4 * other + 2 * place + 1)], 1)
    for place in range(2)
    for one, other in [(0, 1), (0, 2), (1, 2)]
]
PLACES_PAPER = [("given", number) for number in range(9)] + [
    ("add", 3, 4), ("add", 9, 5), ("cut", 10, 2),
    ("add", 6, 7), ("add", 12, 8), ("cut", 13, 2),
    ("add", 11, 14), ("add", 0, 1), ("add", 16, 2), ("add", 15, 17),
]


class Lines(unittest.TestCase):
    """Point 5."""

    def test_given(self):
        rows = [([(1, 2), (5, 0), (2, 1)], 4), ([(-1, 31)], 0), ([], -3)]
        paper = [("given", 2), ("given", 0), ("given", 1), ("given", 0)]
        self.assertEqual(lines(rows, paper), [
            ([], -3), ([(3, 0), (1, 2)], 2), ([(1, 30)], 1), ([(3, 0), (1, 2)], 2),
        ])

    def test_given_row_with_as_many_on_both_sides(self):
        self.assertEqual(lines([([(4, 0), (4, 1)], 4)], [("given", 0)]), [([], 0)])

    def test_side(self):
        for side in range(32):
            self.assertEqual(lines([], [("side", side)]), [([(1, side)], 0)])

    def test_add(self):
        rows = [([(1, 0)], 1), ([(2, 1), (1, 30)], 2)]
        paper = [("given", 0), ("given", 1), ("add", 0, 1), ("add", 1, 0), ("add", 2, 1)]
        self.assertEqual(lines(rows, paper)[2:], [
            ([(1, 1), (1, 30)], 2), ([(1, 1), (1, 30)], 2), ([(3, 1), (2, 30)], 4),
        ])

    def test_a_line_added_to_itself(self):
        paper = [("given", 0), ("add", 0, 0), ("add", 1, 1)]
        self.assertEqual(lines([([(1, 0), (3, 5)], 2)], paper), [
            ([(1, 0), (3, 5)], 2), ([(2, 0), (6, 5)], 4), ([(4, 0), (12, 5)], 8),
        ])

    def test_times(self):
        paper = [("given", 0), ("times", 0, 3), ("times", 0, 1), ("times", 1, 2)]
        self.assertEqual(lines([([(1, 0), (3, 5)], -2)], paper)[1:], [
            ([(3, 0), (9, 5)], -6), ([(1, 0), (3, 5)], -2), ([(6, 0), (18, 5)], -12),
        ])

    def test_cut(self):
        paper = [("given", 0), ("cut", 0, 2), ("cut", 0, 1), ("cut", 0, 3)]
        self.assertEqual(lines([([(1, 0), (3, 5)], -5)], paper)[1:], [
            ([(1, 0), (2, 5)], -2), ([(1, 0), (3, 5)], -5), ([(1, 0), (1, 5)], -1),
        ])

    def test_size(self):
        for least, weight in [(-1, 3), (0, 3), (1, 1), (2, 2), (3, 3), (4, 3)]:
            found = lines([([(3, 0), (1, 5)], least)], [("given", 0), ("size", 0)])
            self.assertEqual(found[1], ([(weight, 0), (1, 5)], least))

    def test_numbers_up_to_their_bound(self):
        paper = [("given", 0), ("times", 0, GREAT), ("cut", 1, GREAT), ("times", 1, GREAT), ("cut", 0, GREAT)]
        self.assertEqual(lines([([(2, 0)], -3)], paper)[1:], [
            ([(2 * GREAT, 0)], -3 * GREAT),
            ([(2, 0)], -3),
            ([(2 * GREAT ** 2, 0)], -3 * GREAT ** 2),
            ([(1, 0)], 0),
        ])

    def test_lines_grow_beyond_the_bound(self):
        paper = [("given", 0)] + [("add", number, number) for number in range(200)]
        self.assertEqual(lines([([(1, 31)], 1)], paper)[-1], ([(2 ** 200, 31)], 2 ** 200))
        paper = [("given", 0)] + [("times", number, GREAT) for number in range(10)]
        self.assertEqual(lines([([(3, 0)], -2)], paper)[-1], ([(3 * GREAT ** 10, 0)], -2 * GREAT ** 10))

    def test_empty_paper(self):
        self.assertEqual(lines([], []), [])
        self.assertEqual(lines([([(1, 0)], 1)], []), [])

    def test_about_no_rows(self):
        paper = [("side", 0), ("side", 31), ("side", 1), ("add", 0, 1), ("add", 3, 2)]
        self.assertEqual(lines([], paper)[3:], [([(1, 0), (1, 31)], 0), ([(1, 31)], -1)])

    def test_a_paper_of_all_kinds(self):
        rows = [([(2, 0), (2, 2), (2, 4)], 3), ([(3, 1), (1, 2)], 1)]
        paper = [
            ("given", 0), ("cut", 0, 2), ("given", 1), ("size", 2),
            ("add", 1, 3), ("times", 4, 2), ("side", 5), ("add", 5, 6),
        ]
        self.assertEqual(lines(rows, paper), [
            ([(2, 0), (2, 2), (2, 4)], 3), ([(1, 0), (1, 2), (1, 4)], 2),
            ([(3, 1), (1, 2)], 1), ([(1, 1), (1, 2)], 1),
            ([(2, 2), (1, 4)], 2), ([(4, 2), (2, 4)], 4),
            ([(1, 5)], 0), ([(4, 2), (1, 4)], 3),
        ])

    def test_longest_paper(self):
        paper = [("given", 0)]
        while len(paper) < 20000:
            paper += [("add", len(paper) - 1, 0), ("cut", len(paper), 2)]
        paper = paper[:20000]
        found = lines([([(1, side) for side in range(0, 32, 2)], 3)], paper)
        self.assertEqual(len(found), 20000)
        for line in found:
            self.assertIn(line[0][0][0], [1, 2])
            self.assertIn(line[1], [3, 6])

    def test_somewhat_beyond_the_bounds(self):
        rows = [([(1, 2 * number)], number) for number in range(35)]
        paper = [("given", number) for number in range(35)]
        self.assertEqual(lines(rows, paper), rows)
        self.assertEqual(len(lines([], [("side", 0)] * 20005)), 20005)


class Refused(unittest.TestCase):
    """Point 6."""

    ROWS = [([(1, 0)], 1), ([(1, 1)], 1)]
    # Line 2 of these shows that no filling is there.
    AHEAD = [("given", 0), ("given", 1), ("add", 0, 1)]

    def check_refused(self, rows, paper, line):
        for call in [lines, shows]:
            with self.assertRaises(BadStep) as taken:
                call(rows, paper)
            self.assertEqual(taken.exception.line, line, paper)
            self.assertIs(type(taken.exception.line), int)
            self.assertIsInstance(taken.exception, CutError)
            self.assertIsInstance(taken.exception, ValueError)
            self.assertNotIsInstance(taken.exception, NoRow)

    def check_step(self, step):
        self.check_refused(self.ROWS, self.AHEAD + [step], 3)
        self.check_refused(self.ROWS, self.AHEAD + [step] + self.AHEAD, 3)
        self.check_refused(self.ROWS, [step], 0)

    def test_no_such_row(self):
        for number in [-3, -2, -1, 2, 3, GREAT]:
            self.check_step(("given", number))

    def test_no_rows_at_all(self):
        for number in [-1, 0, 1]:
            self.check_refused([], [("given", number)], 0)
            self.check_refused([], [("side", 0), ("given", number)], 1)

    def test_side_out_of_bounds(self):
        for side in [-32, -2, -1, 32, 33, GREAT]:
            self.check_step(("side", side))

    def test_no_such_line(self):
        # 3 is the step's own number, 4 a later one's.
        for number in [-4, -3, -1, 3, 4, 6, GREAT]:
            self.check_step(("add", number, 0))
            self.check_step(("add", 0, number))
            self.check_step(("add", number, number))
            self.check_step(("times", number, 2))
            self.check_step(("cut", number, 2))
            self.check_step(("size", number))

    def test_number_out_of_bounds(self):
        for number in [-GREAT, -2, -1, 0, GREAT + 1, GREAT ** 2]:
            self.check_step(("times", 0, number))
            self.check_step(("cut", 0, number))

    def test_line_and_number_out_of_bounds(self):
        for kind in ["times", "cut"]:
            self.check_step((kind, 3, 0))
            self.check_step((kind, -1, GREAT + 1))

    def test_first_of_several(self):
        bad = [("given", 2), ("side", 32), ("add", 0, 9), ("times", 0, 0), ("cut", 0, GREAT + 1), ("size", 90)]
        self.check_refused(self.ROWS, bad, 0)
        self.check_refused(self.ROWS, self.AHEAD + bad, 3)
        for start in range(len(bad)):
            turned = bad[start:] + bad[:start]
            self.check_refused(self.ROWS, self.AHEAD + self.AHEAD + turned, 6)
            mixed = self.AHEAD + [turned[0], ("side", 0), turned[1]]
            self.check_refused(self.ROWS, mixed, 3)

    def test_steps_that_stand_just_at_their_bounds(self):
        for step in [
            ("given", 0), ("given", 1), ("side", 0), ("side", 31), ("add", 2, 0), ("add", 0, 2), ("add", 2, 2),
            ("times", 2, 1), ("times", 2, GREAT), ("cut", 0, 1), ("cut", 2, GREAT), ("size", 0), ("size", 2),
        ]:
            self.assertEqual(len(lines(self.ROWS, self.AHEAD + [step])), 4)

    def test_refusal_leaves_what_was_handed_in(self):
        rows = copy.deepcopy(self.ROWS)
        paper = self.AHEAD + [("size", 3)]
        self.check_refused(rows, paper, 3)
        self.assertEqual(rows, self.ROWS)
        self.assertEqual(paper, self.AHEAD + [("size", 3)])


class Shows(unittest.TestCase):
    """Point 7."""

    def test_two_rows_against_each_other(self):
        rows = [([(1, 0)], 1), ([(1, 1)], 1)]
        paper = [("given", 0), ("given", 1), ("add", 0, 1)]
        self.assertIs(shows(rows, paper), True)
        self.assertIs(shows(rows, paper[:2]), False)

    def test_things_and_places(self):
        self.assertEqual(lines(PLACES, PLACES_PAPER)[11], ([(1, 1), (1, 5), (1, 9)], 2))
        self.assertEqual(lines(PLACES, PLACES_PAPER)[-1], ([], 1))
        self.assertIs(shows(PLACES, PLACES_PAPER), True)
        self.assertIs(shows(PLACES, PLACES_PAPER[:-1]), False)
        for filling in fillings(6):
            self.assertFalse(all(holds_by_words(row, filling) for row in PLACES))

    def test_last_line_without_terms(self):
        for least, shown in [(-GREAT, False), (-1, False), (0, False), (1, True), (2, True), (10 ** 9, True)]:
            self.assertIs(shows([([], least)], [("given", 0)]), shown)

    def test_last_line_with_terms(self):
        for least in [-1, 0, 1, 2]:
            self.assertIs(shows([([(1, 0)], least)], [("given", 0)]), False)

    def test_terms_that_go_when_tidied(self):
        self.assertIs(shows([([(2, 0), (2, 1)], 3)], [("given", 0)]), True)
        self.assertIs(shows([([(2, 0), (2, 1)], 2)], [("given", 0)]), False)

    def test_only_the_last_line_counts(self):
        rows = [([], 1), ([(1, 0)], 1)]
        self.assertIs(shows(rows, [("given", 0), ("given", 1)]), False)
        self.assertIs(shows(rows, [("given", 1), ("given", 0)]), True)

    def test_cut_to_a_least_of_one_or_nought(self):
        self.assertIs(shows([([], 1)], [("given", 0), ("cut", 0, GREAT)]), True)
        self.assertIs(shows([([], -1)], [("given", 0), ("cut", 0, GREAT)]), False)

    def test_empty_paper(self):
        self.assertIs(shows([], []), False)
        self.assertIs(shows([([], 1)], []), False)

    def test_about_no_rows(self):
        paper = [("side", 0), ("side", 1), ("add", 0, 1)]
        self.assertEqual(lines([], paper)[-1], ([], -1))
        self.assertIs(shows([], paper), False)

    def chance_paper(self, chance, row_count, unknowns, many):
        paper = []
        for number in range(many):
            kinds = ["side"] + ["given"] * (2 if row_count else 0)
            kinds += ["add", "add", "times", "cut", "cut", "size"] if number else []
            kind = chance.choice(kinds)
            if kind == "given":
                paper.append((kind, chance.randrange(row_count)))
            elif kind == "side":
                paper.append((kind, chance.randrange(2 * unknowns)))
            elif kind == "add":
                paper.append((kind, chance.randrange(number), chance.randrange(number)))
            elif kind == "size":
                paper.append((kind, chance.randrange(number)))
            else:
                paper.append((kind, chance.randrange(number), chance.choice([1, 2, 3, 7, GREAT])))
        return paper

    def test_every_line_holds_where_all_rows_hold(self):
        chance = random.Random(7)
        kept = 0
        for _ in range(400):
            unknowns = chance.randint(1, 4)
            rows = [chance_row(chance, unknowns, 5, 4, 4) for _ in range(chance.randint(0, 4))]
            paper = self.chance_paper(chance, len(rows), unknowns, 25)
            before = copy.deepcopy((rows, paper))
            found = lines(rows, paper)
            shown = shows(rows, paper)
            self.assertEqual((rows, paper), before)
            self.assertEqual(len(found), len(paper))
            self.assertIs(shown, found[-1][0] == [] and found[-1][1] >= 1)
            for line in found:
                check_tidy(self, line)
            for filling in fillings(unknowns):
                if all(holds_by_words(row, filling) for row in rows):
                    kept += 1
                    self.assertFalse(shown)
                    for line in found:
                        self.assertTrue(holds_by_words(line, filling), (rows, paper, line, filling))
        # Without fillings that meet all rows the test would say nothing.
        self.assertGreater(kept, 100)


class Apart(unittest.TestCase):
    """Point 1, over papers."""

    ROWS = [([(3, 0), (2, 3)], 2), ([(1, 1)], -1)]
    PAPER = [
        ("given", 0), ("given", 0), ("given", 1), ("side", 5), ("side", 5), ("add", 0, 2), ("add", 0, 0),
        ("times", 0, 1), ("cut", 0, 1), ("size", 0), ("size", 2), ("size", 10), ("size", 11), ("cut", 2, 1),
        ("times", 2, 1),
    ]

    def test_kinds(self):
        found = lines(self.ROWS, self.PAPER)
        self.assertIs(type(found), list)
        for line in found:
            check_tidy(self, line)

    def test_nothing_is_changed(self):
        rows = copy.deepcopy(self.ROWS)
        paper = list(self.PAPER)
        lines(rows, paper)
        shows(rows, paper)
        self.assertEqual(rows, self.ROWS)
        self.assertEqual(paper, self.PAPER)

    def test_no_two_lists_are_one(self):
        rows = copy.deepcopy(self.ROWS)
        paper = list(self.PAPER)
        check_apart(self, [lines(rows, paper), lines(rows, paper)], [rows, paper])

    def test_changing_a_line_changes_no_other(self):
        kept = lines(self.ROWS, self.PAPER)
        for number in range(len(kept)):
            found = lines(self.ROWS, self.PAPER)
            found[number][0].append((7, 30))
            self.assertEqual(found[:number] + found[number + 1:], kept[:number] + kept[number + 1:])
            self.assertEqual(lines(self.ROWS, self.PAPER), kept)
            found.clear()
            self.assertEqual(lines(self.ROWS, self.PAPER), kept)

    def test_changing_what_was_handed_in_changes_no_answer(self):
        rows = copy.deepcopy(self.ROWS)
        paper = list(self.PAPER)
        kept = lines(self.ROWS, self.PAPER)
        found = lines(rows, paper)
        rows[0][0].clear()
        rows.pop()
        paper.clear()
        self.assertEqual(found, kept)
        self.assertEqual(lines(rows, paper), [])


if __name__ == "__main__":
    unittest.main()
