import itertools
import unittest

from cutpaper.wishes import at_least, at_most, either, follows, just
from helper import check_apart, check_tidy, fillings, holds_by_words


def many_met(sides, filling):
    return len([side for side in sides if filling[side // 2] is (side % 2 == 0)])


def side_lists(unknowns, most):
    lists = []
    for many in range(most + 1):
        lists += [list(sides) for sides in itertools.product(range(2 * unknowns), repeat=many)]
    return lists


class JustAsTold(unittest.TestCase):
    """Point 11, row by row."""

    def test_at_least(self):
        self.assertEqual(at_least(2, [0, 3, 4]), [([(1, 0), (1, 3), (1, 4)], 2)])
        self.assertEqual(at_least(2, [4, 3, 0]), [([(1, 0), (1, 3), (1, 4)], 2)])

    def test_at_most(self):
        self.assertEqual(at_most(1, [0, 3, 4]), [([(1, 1), (1, 2), (1, 5)], 2)])
        self.assertEqual(at_most(0, [31]), [([(1, 30)], 1)])

    def test_just(self):
        self.assertEqual(just(1, [0, 3]), [([(1, 0), (1, 3)], 1), ([(1, 1), (1, 2)], 1)])
        self.assertEqual(just(2, [0, 3, 4]), at_least(2, [0, 3, 4]) + at_most(2, [0, 3, 4]))

    def test_either(self):
        self.assertEqual(either([0, 3]), [([(1, 0), (1, 3)], 1)])
        self.assertEqual(either([7]), [([(1, 7)], 1)])

    def test_follows(self):
        self.assertEqual(follows(0, 2), [([(1, 1), (1, 2)], 1)])
        self.assertEqual(follows(2, 0), [([(1, 0), (1, 3)], 1)])
        self.assertEqual(follows(31, 5), [([(1, 5), (1, 30)], 1)])

    def test_a_side_twice_counts_twice(self):
        self.assertEqual(at_least(2, [0, 0, 3]), [([(2, 0), (1, 3)], 2)])
        self.assertEqual(at_most(2, [0, 0, 3]), [([(2, 1), (1, 2)], 1)])
        self.assertEqual(just(2, [4, 4]), [([(2, 4)], 2), ([(2, 5)], 0)])
        self.assertEqual(either([5, 5, 5]), [([(3, 5)], 1)])

    def test_both_sides_of_an_unknown(self):
        self.assertEqual(at_least(1, [0, 1]), [([], 0)])
        self.assertEqual(at_least(2, [0, 1]), [([], 1)])
        self.assertEqual(at_most(0, [0, 1]), [([], 1)])
        self.assertEqual(at_most(1, [0, 1, 0]), [([(1, 1)], 1)])
        self.assertEqual(either([3, 2, 0]), [([(1, 0)], 0)])

    def test_no_sides(self):
        for many in range(-20, 21):
            self.assertEqual(at_least(many, []), [([], many)])
            self.assertEqual(at_most(many, []), [([], -many)])
            self.assertEqual(just(many, []), [([], many), ([], -many)])
        self.assertEqual(either([]), [([], 1)])

    def test_a_side_that_follows_itself_or_its_other_side(self):
        for side in range(0, 32, 2):
            self.assertEqual(follows(side, side), [([], 0)])
            self.assertEqual(follows(side + 1, side + 1), [([], 0)])
            self.assertEqual(follows(side, side + 1), [([(2, side + 1)], 1)])
            self.assertEqual(follows(side + 1, side), [([(2, side)], 1)])

    def test_sixteen_sides(self):
        sides = list(range(0, 32, 2))
        for many in [-20, 0, 1, 16, 20]:
            self.assertEqual(at_least(many, sides), [([(1, side) for side in sides], many)])
            self.assertEqual(at_most(many, sides), [([(1, side + 1) for side in sides], 16 - many)])
        self.assertEqual(at_least(3, [9] * 16), [([(16, 9)], 3)])

    def test_somewhat_beyond_the_bounds(self):
        self.assertEqual(at_least(30, [1] * 18), [([(18, 1)], 30)])
        self.assertEqual(at_most(-30, [1] * 18), [([(18, 0)], 48)])
        self.assertEqual(follows(32, 35), [([(1, 33), (1, 35)], 1)])


class ByEveryFilling(unittest.TestCase):
    """Point 11: the rows hold of just the fillings that keep the wish."""

    def check(self, rows, how_many, keeps):
        self.assertIs(type(rows), list)
        self.assertEqual(len(rows), how_many)
        for row in rows:
            check_tidy(self, row)
        for filling in fillings(3):
            holding = all(holds_by_words(row, filling) for row in rows)
            self.assertIs(holding, keeps(filling), (rows, filling))

    def test_wishes_of_a_number(self):
        for sides in side_lists(3, 3) + [[0, 0, 2, 5, 5, 5], [0, 1, 2, 3, 4, 5], [1, 3, 1, 2]]:
            for many in range(-2, len(sides) + 3):
                self.check(at_least(many, sides), 1, lambda filling: many_met(sides, filling) >= many)
                self.check(at_most(many, sides), 1, lambda filling: many_met(sides, filling) <= many)
                self.check(just(many, sides), 2, lambda filling: many_met(sides, filling) == many)

    def test_numbers_far_off(self):
        for sides in [[], [0], [0, 3, 3]]:
            for many in [-20, -19, 19, 20]:
                self.check(at_least(many, sides), 1, lambda filling: many < 0)
                self.check(at_most(many, sides), 1, lambda filling: many > 0)
                self.check(just(many, sides), 2, lambda filling: False)

    def test_either(self):
        for sides in side_lists(3, 3):
            self.check(either(sides), 1, lambda filling: many_met(sides, filling) >= 1)

    def test_follows(self):
        for one in range(6):
            for other in range(6):
                keeps = lambda filling: many_met([one], filling) <= many_met([other], filling)
                self.check(follows(one, other), 1, keeps)


class Apart(unittest.TestCase):
    """Point 1, over wishes."""

    CALLS = [
        lambda sides: at_least(2, sides),
        lambda sides: at_most(2, sides),
        lambda sides: just(2, sides),
        lambda sides: either(sides),
    ]

    def test_sides_stay_and_lists_are_new(self):
        for call in self.CALLS:
            for sides in [[4, 0, 0, 3], [], [1]]:
                before = list(sides)
                first = call(sides)
                second = call(sides)
                self.assertEqual(sides, before)
                check_apart(self, [first, second], sides)

    def test_later_changes_change_nothing(self):
        for call in self.CALLS:
            sides = [4, 0, 0, 3]
            first = call(sides)
            kept = call(sides)
            first[0][0].append((9, 30))
            first.clear()
            self.assertEqual(call(sides), kept)
            sides.clear()
            self.assertEqual(call([4, 0, 0, 3]), kept)

    def test_follows(self):
        check_apart(self, [follows(0, 2), follows(0, 2), follows(0, 0)], [])
        first = follows(0, 2)
        first[0][0].clear()
        first.clear()
        self.assertEqual(follows(0, 2), [([(1, 1), (1, 2)], 1)])


if __name__ == "__main__":
    unittest.main()
