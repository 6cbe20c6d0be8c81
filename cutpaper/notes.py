"""Tidy rows written as texts, and such texts read."""

from cutpaper.errors import NoRow


def figures(number):
    # Python's own str refuses numbers of some thousand figures, so it gets 18 of them at a time.
    parts = []
    while number >= 10 ** 18:
        parts.append(str(number % 10 ** 18).zfill(18))
        number = number // 10 ** 18
    parts.append(str(number))
    return "".join(reversed(parts))


def shown_number(number):
    return "-" + figures(-number) if number < 0 else figures(number)


def shown_term(weight, side):
    letter = "y" if side % 2 == 0 else "n"
    return shown_number(weight) + " " + letter + shown_number(side // 2)


def shown(row):
    terms = [shown_term(weight, side) for weight, side in row[0]]
    if len(terms) == 0:
        terms.append("0")
    return " + ".join(terms) + " >= " + shown_number(row[1])


def read_figures(text):
    # Looked at sign by sign, for int takes blanks, plus signs and underscores too.
    if not all([sign in "0123456789" for sign in text]):
        raise NoRow("a number has other signs than figures")
    if not 1 <= len(text) <= 18:
        raise NoRow("a number has no figures, or more than 18")
    if text[0] == "0" and len(text) > 1:
        raise NoRow("a number has a needless nought")
    return int(text)


def read_least(text):
    if not text.startswith("-"):
        return read_figures(text)
    number = read_figures(text[1:])
    if number == 0:
        raise NoRow("nought has a sign")
    return -number


def read_term(text):
    parts = text.split(" ")
    if len(parts) != 2:
        raise NoRow("a term is not a weight, a blank and a side")
    letter = parts[1][:1]
    if letter not in ("y", "n"):
        raise NoRow("a side has neither y nor n")
    weight = read_figures(parts[0])
    unknown = read_figures(parts[1][1:])
    if weight == 0:
        raise NoRow("a weight is nought")
    if unknown > 15:
        raise NoRow("an unknown is above 15")
    return (weight, 2 * unknown if letter == "y" else 2 * unknown + 1)


def read_terms(text):
    if text == "0":
        return []
    terms = [read_term(part) for part in text.split(" + ")]
    unknowns = [side // 2 for weight, side in terms]
    if unknowns != sorted(set(unknowns)):
        raise NoRow("the unknowns do not rise")
    return terms


def read(line):
    parts = line.split(" >= ")
    if len(parts) != 2:
        raise NoRow("there is not just one sign between the terms and the least")
    return (read_terms(parts[0]), read_least(parts[1]))
