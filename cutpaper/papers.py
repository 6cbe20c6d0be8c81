"""Papers: the lines that their steps give, and whether they show that no filling is there."""

from cutpaper.errors import BadStep
from cutpaper.rows import added, cut, sized, tidy, times


def is_good(step, row_count, line_count):
    kind = step[0]
    if kind == "given":
        return 0 <= step[1] < row_count
    if kind == "side":
        return 0 <= step[1] <= 31
    if not 0 <= step[1] < line_count:
        return False
    if kind == "add":
        return 0 <= step[2] < line_count
    if kind == "size":
        return True
    return 1 <= step[2] <= 10 ** 18


def line_of(step, rows, ahead):
    kind = step[0]
    if kind == "given":
        return tidy(rows[step[1]])
    if kind == "side":
        return ([(1, step[1])], 0)
    line = ahead[step[1]]
    if kind == "add":
        return added(line, ahead[step[2]])
    if kind == "times":
        return times(line, step[2])
    if kind == "cut":
        return cut(line, step[2])
    return sized(line)


def lines(rows, paper):
    made = []
    for step in paper:
        number = len(made)
        if not is_good(step, len(rows), number):
            raise BadStep(number)
        made.append(line_of(step, rows, made))
    return made


def shows(rows, paper):
    made = lines(rows, paper)
    if len(made) == 0:
        return False
    last = made[-1]
    return len(last[0]) == 0 and last[1] >= 1
