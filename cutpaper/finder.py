"""Fillings of which all rows hold, papers that show that there are none, and clashes of rows.

A start is the beginning of a filling: entries for the first unknowns, while the others may still be either.
A bare line is one whose weights and least are all 1: it holds where one of its sides is met.
"""

from cutpaper.papers import line_of
from cutpaper.rows import is_met, other_side, tidy


def is_failed(side, start):
    return side // 2 < len(start) and not is_met(side, start)


def most_to_come(row, start):
    # A tidy row has no weights below nought, so a side that may still be met can only help.
    return sum([weight for weight, side in row[0] if not is_failed(side, start)])


def first_broken(rows, start):
    for number, row in enumerate(rows):
        if most_to_come(row, start) < row[1]:
            return number
    return None


def filling_from(unknowns, rows, start):
    if first_broken(rows, start) is not None:
        return None
    if len(start) == unknowns:
        return start
    found = filling_from(unknowns, rows, start + [True])
    if found is None:
        found = filling_from(unknowns, rows, start + [False])
    return found


def meeting(unknowns, rows):
    return filling_from(unknowns, [tidy(row) for row in rows], [])


class Writer:
    def __init__(self, rows):
        self.rows = [tidy(row) for row in rows]
        self.steps = []
        self.made = []
        self.numbers = {}

    def write(self, step):
        # A step that stands there already gives the same line again: this keeps the paper short.
        if step not in self.numbers:
            self.numbers[step] = len(self.steps)
            self.steps.append(step)
            self.made.append(line_of(step, self.rows, self.made))
        return self.numbers[step]

    def names(self, number, side):
        return side in [named for weight, named in self.made[number][0]]

    def without(self, number, weight, side):
        # As much weight on the other side takes the term away, and that weight off the least.
        other = self.write(("side", other_side(side)))
        against = self.write(("times", other, weight))
        return self.write(("add", number, against))

    def bare(self, number):
        # Cut by the greatest of its numbers, all of them from 1 on, each becomes 1.
        terms = self.made[number][0]
        greatest = max([weight for weight, side in terms] + [self.made[number][1]])
        return self.write(("cut", number, greatest))

    def bare_of_row(self, row_number, start):
        # The row is broken, so its least stays above nought when all that is not failed is taken away.
        number = self.write(("given", row_number))
        for weight, side in self.rows[row_number][0]:
            if not is_failed(side, start):
                number = self.without(number, weight, side)
        return self.bare(number)


def refuted(writer, start):
    # Gives the number of a bare line all of whose sides are failed by the start, so one without terms for the
    # empty start. A line without terms is handed up at once, and nothing is written behind it.
    broken = first_broken(writer.rows, start)
    if broken is not None:
        return writer.bare_of_row(broken, start)
    yes_side = 2 * len(start)
    yes = refuted(writer, start + [True])
    if not writer.names(yes, other_side(yes_side)):
        return yes
    no = refuted(writer, start + [False])
    if not writer.names(no, yes_side):
        return no
    return writer.bare(writer.write(("add", yes, no)))


def paper_against(rows):
    # For 8 unknowns there are at most 256 broken rows, each with 8 sums and a cut, and 255 sums of two bare lines,
    # each with a cut; the other steps stand there once for a row, a side or a term. So it is far below 20000 steps.
    writer = Writer(rows)
    refuted(writer, [])
    return writer.steps


def find(unknowns, rows):
    filling = meeting(unknowns, rows)
    if filling is None:
        return ("paper", paper_against(rows))
    return ("filling", filling)


def chosen(rows, numbers):
    return [rows[number] for number in numbers]


def all_but(numbers, left_out):
    return [number for number in numbers if number != left_out]


def clash(unknowns, rows):
    if meeting(unknowns, rows) is not None:
        return None
    numbers = list(range(len(rows)))
    for number in range(len(rows)):
        others = all_but(numbers, number)
        if meeting(unknowns, chosen(rows, others)) is None:
            numbers = others
    fillings = [meeting(unknowns, chosen(rows, all_but(numbers, number))) for number in numbers]
    return (numbers, fillings, paper_against(chosen(rows, numbers)))
