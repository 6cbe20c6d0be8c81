"""What several tests need: fillings, rows, checks of papers, and the lists within a value."""

import itertools

from cutpaper.papers import lines, shows


def fillings(unknowns):
    return [list(entries) for entries in itertools.product([True, False], repeat=unknowns)]


def small_rows(unknowns, most_terms, weights, leasts):
    """Every row of at most so many terms about these unknowns, with these weights and leasts."""
    terms = list(itertools.product(weights, range(2 * unknowns)))
    rows = []
    for many in range(most_terms + 1):
        for chosen in itertools.product(terms, repeat=many):
            rows += [(list(chosen), least) for least in leasts]
    return rows


def small_tidy_rows(unknowns, most_weight, leasts):
    """Every tidy row about these unknowns with weights up to this one."""
    choices = []
    for unknown in range(unknowns):
        sides = [2 * unknown, 2 * unknown + 1]
        weights = range(1, most_weight + 1)
        choices.append([[]] + [[term] for term in itertools.product(weights, sides)])
    rows = []
    for parts in itertools.product(*choices):
        terms = [term for part in parts for term in part]
        rows += [(list(terms), least) for least in leasts]
    return rows


def chance_row(chance, unknowns, most_terms, most_weight, most_least):
    terms = []
    for _ in range(chance.randint(0, most_terms)):
        weight = chance.randint(-most_weight, most_weight)
        terms.append((weight, chance.randrange(2 * unknowns)))
    return (terms, chance.randint(-most_least, most_least))


def holds_by_words(row, filling):
    """Point 2 once more, written apart from the program."""
    terms, least = row
    return worth_by_words(terms, filling) >= least


def meeting_by_words(unknowns, rows):
    """Every filling of which all rows hold, found by trying each one."""
    return [filling for filling in fillings(unknowns) if all(holds_by_words(row, filling) for row in rows)]


def worth_by_words(terms, filling):
    """Point 9 once more, written apart from the program."""
    come_to = 0
    for weight, side in terms:
        unknown, is_no_side = divmod(side, 2)
        if filling[unknown] is (not is_no_side):
            come_to += weight
    return come_to


def turned_about(row):
    """The row that holds of just the fillings of which this one does not."""
    return ([(-weight, side) for weight, side in row[0]], 1 - row[1])


def chance_rows(chance, unknowns, most_rows, most_terms, most_weight, most_least):
    many = chance.randint(0, most_rows)
    return [chance_row(chance, unknowns, most_terms, most_weight, most_least) for _ in range(many)]


def rows_against_each_other(chance, unknowns, many, most_weight):
    """Rows that ask for about half of the weights, some sides and some other sides: seldom met together."""
    rows = []
    for _ in range(many):
        terms = [(chance.randint(1, most_weight), 2 * unknown + chance.randrange(2)) for unknown in range(unknowns)]
        whole = sum(weight for weight, side in terms)
        rows.append((terms, whole * chance.randint(35, 60) // 100))
    return rows


def check_filling(test, unknowns, filling):
    test.assertIs(type(filling), list)
    test.assertEqual(len(filling), unknowns)
    for entry in filling:
        test.assertIs(type(entry), bool)


STEP_LENGTHS = {"given": 2, "side": 2, "add": 3, "times": 3, "cut": 3, "size": 2}


def check_paper(test, rows, paper):
    """The form of point 5, within the bounds of points 5 and 6, and that the paper shows that nothing meets all."""
    test.assertIs(type(paper), list)
    test.assertLessEqual(len(paper), 20000)
    for step in paper:
        test.assertIs(type(step), tuple)
        test.assertEqual(len(step), STEP_LENGTHS[step[0]], step)
        for part in step[1:]:
            test.assertIs(type(part), int)
    last = lines(rows, paper)[-1]
    test.assertEqual(last[0], [])
    test.assertGreaterEqual(last[1], 1)
    test.assertIs(shows(rows, paper), True)


def lists_within(value):
    """All lists within a value, itself among them, each place counted."""
    if isinstance(value, (list, tuple)):
        found = [value] if isinstance(value, list) else []
        for part in value:
            found += lists_within(part)
        return found
    return []


def check_row_form(test, row):
    """The kinds that the interface tells: a pair of a list of pairs and a whole number."""
    test.assertIs(type(row), tuple)
    test.assertEqual(len(row), 2)
    test.assertIs(type(row[0]), list)
    test.assertIs(type(row[1]), int)
    for term in row[0]:
        test.assertIs(type(term), tuple)
        test.assertEqual([type(part) for part in term], [int, int])


def check_tidy(test, row):
    check_row_form(test, row)
    unknowns = [side // 2 for weight, side in row[0]]
    test.assertEqual(unknowns, sorted(set(unknowns)))
    for weight, side in row[0]:
        test.assertGreaterEqual(weight, 1)


def check_apart(test, given_back, handed_in):
    """No list that is given back is another one, or one that was handed in."""
    new = [id(found) for found in lists_within(given_back)]
    old = [id(found) for found in lists_within(handed_in)]
    test.assertEqual(len(new), len(set(new)))
    test.assertEqual(set(new) & set(old), set())
