"""Wishes about sides, made into tidy rows that hold of just the fillings that keep the wish."""

from cutpaper.rows import other_side, tidy


def at_least(many, sides):
    return [tidy(([(1, side) for side in sides], many))]


def at_most(many, sides):
    return [tidy(([(1, other_side(side)) for side in sides], len(sides) - many))]


def just(many, sides):
    return at_least(many, sides) + at_most(many, sides)


def either(sides):
    return at_least(1, sides)


def follows(one, other):
    return [tidy(([(1, other_side(one)), (1, other)], 1))]
