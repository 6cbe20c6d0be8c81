"""What several tests need: fillings, rows, and the lists within a value."""

import itertools


def fillings(unknowns):
    return [list(entries) for entries in itertools.product([True, False], repeat=unknowns)]


def small_rows(unknowns, most_terms, weights, leasts):
    """Every row of at most so many terms about these unknowns, with these weights and leasts."""
    terms = list(itertools.product(weights, range(2 * unknowns)))
    rows = []
    for many in range(most_terms + 1):
        for chosen in itertools.product(terms, repeat=many):
            rows += [(list(chosen), least) for least in leasts]
    return rows


def small_tidy_rows(unknowns, most_weight, leasts):
    """Every tidy row about these unknowns with weights up to this one."""
    choices = []
    for unknown in range(unknowns):
        sides = [2 * unknown, 2 * unknown + 1]
        weights = range(1, most_weight + 1)
        choices.append([[]] + [[term] for term in itertools.product(weights, sides)])
    rows = []
    for parts in itertools.product(*choices):
        terms = [term for part in parts for term in part]
        rows += [(list(terms), least) for least in leasts]
    return rows


def chance_row(chance, unknowns, most_terms, most_weight, most_least):
    terms = []
    for _ in range(chance.randint(0, most_terms)):
        weight = chance.randint(-most_weight, most_weight)
        terms.append((weight, chance.randrange(2 * unknowns)))
    return (terms, chance.randint(-most_least, most_least))


def holds_by_words(row, filling):
    """Point 2 once more, written apart from the program."""
    terms, least = row
    come_to = 0
    for weight, side in terms:
        unknown, is_no_side = divmod(side, 2)
        if filling[unknown] is (not is_no_side):
            come_to += weight
    return come_to >= least


def lists_within(value):
    """All lists within a value, itself among them, each place counted."""
    if isinstance(value, (list, tuple)):
        found = [value] if isinstance(value, list) else []
        for part in value:
            found += lists_within(part)
        return found
    return []


def check_row_form(test, row):
    """The kinds that the interface tells: a pair of a list of pairs and a whole number."""
    test.assertIs(type(row), tuple)
    test.assertEqual(len(row), 2)
    test.assertIs(type(row[0]), list)
    test.assertIs(type(row[1]), int)
    for term in row[0]:
        test.assertIs(type(term), tuple)
        test.assertEqual([type(part) for part in term], [int, int])


def check_tidy(test, row):
    check_row_form(test, row)
    unknowns = [side // 2 for weight, side in row[0]]
    test.assertEqual(unknowns, sorted(set(unknowns)))
    for weight, side in row[0]:
        test.assertGreaterEqual(weight, 1)


def check_apart(test, given_back, handed_in):
    """No list that is given back is another one, or one that was handed in."""
    new = [id(found) for found in lists_within(given_back)]
    old = [id(found) for found in lists_within(handed_in)]
    test.assertEqual(len(new), len(set(new)))
    test.assertEqual(set(new) & set(old), set())
