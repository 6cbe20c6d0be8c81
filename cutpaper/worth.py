"""The worth of fillings, and the best one of which all rows hold."""

from cutpaper.finder import find
from cutpaper.rows import met_weight


def worth(terms, filling):
    return met_weight(terms, filling)


def better(unknowns, rows, terms, filling):
    return find(unknowns, rows + [(terms, worth(terms, filling) + 1)])


def best(unknowns, rows, terms):
    found = find(unknowns, rows)
    if found[0] == "paper":
        return ("none", found[1])
    filling = found[1]
    found = better(unknowns, rows, terms, filling)
    while found[0] == "filling":
        filling = found[1]
        found = better(unknowns, rows, terms, filling)
    return ("best", filling, worth(terms, filling), found[1])
