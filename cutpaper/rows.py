"""Rows: where they hold, how they are tidied, and the rows that come of them."""


def is_met(side, filling):
    return filling[side // 2] == (side % 2 == 0)


def other_side(side):
    return side + 1 if side % 2 == 0 else side - 1


def met_weight(terms, filling):
    return sum([weight for weight, side in terms if is_met(side, filling)])


def holds(row, filling):
    return met_weight(row[0], filling) >= row[1]


def weights_by_side(terms):
    weights = {}
    for weight, side in terms:
        weights[side] = weights.get(side, 0) + weight
    return weights


def tidy(row):
    weights = weights_by_side(row[0])
    terms = []
    least = row[1]
    for unknown in sorted(set([side // 2 for side in weights])):
        yes = weights.get(2 * unknown, 0)
        no = weights.get(2 * unknown + 1, 0)
        if yes > no:
            terms.append((yes - no, 2 * unknown))
        if no > yes:
            terms.append((no - yes, 2 * unknown + 1))
        # One of the two sides is always met, so the lesser weight is there in any filling.
        least = least - min(yes, no)
    return (terms, least)


def added(one, other):
    return tidy((one[0] + other[0], one[1] + other[1]))


def times(row, number):
    return ([(weight * number, side) for weight, side in row[0]], row[1] * number)


def divided_up(number, divisor):
    # // rounds down, below nought too: turning the sign ahead of it and behind it rounds up.
    return -(-number // divisor)


def cut(row, number):
    terms = [(divided_up(weight, number), side) for weight, side in row[0]]
    return (terms, divided_up(row[1], number))


def sized(row):
    least = row[1]
    if least < 1:
        # A copy, for a list that is given back is never one that was handed in.
        return (list(row[0]), least)
    return ([(min(weight, least), side) for weight, side in row[0]], least)
