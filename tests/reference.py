"""Slow and plain ways to find what the program finds, for small cases, and plans to try it on."""

import random
from itertools import permutations, product

from drawclaims.plans import Plan


def all_marks(length):
    return list(product((0, 1), repeat=length))


def run(rows, marks):
    """The class and the number of rows looked at."""
    m = k = 0
    while rows[m][k] == "-":
        k += marks[m]
        m += 1
    return int(rows[m][k]), m


def states_met(rows):
    """For each reached state, the runs through it: the rows looked at behind it, and the class, marks by marks."""
    met = {}
    for marks in all_marks(len(rows) - 1):
        number, looked = run(rows, marks)
        for m in range(looked + 1):
            met.setdefault((m, sum(marks[:m])), []).append((marks[:m], looked - m, number))
    return met


def sinks_at(rows, marks, place):
    """Whether 1 in the place of this 0 makes the class less."""
    more = marks[:place] + (1,) + marks[place + 1:]
    return marks[place] == 0 and run(rows, more)[0] < run(rows, marks)[0]


def is_rising(rows):
    length = len(rows) - 1
    return not any(
        sinks_at(rows, marks, place) for marks in all_marks(length) for place in range(length) if not marks[place]
    )


def each_row(row, letters):
    """All rows that fit behind this one, with these letters at the reached states."""
    known = [
        (k > 0 and row[k - 1] == "-") or (k < len(row) and row[k] == "-") for k in range(len(row) + 1)
    ]
    return ["".join(choice) for choice in product(*[letters if each else "." for each in known])]


def each_form(longest, digits):
    """All rows with this longest look and these digits whose states are right; the classes need not be."""
    forms = [("-",)]
    for m in range(1, longest + 1):
        letters = digits if m == longest else "-" + digits
        forms = [rows + (row,) for rows in forms for row in each_row(rows[-1], letters)]
    return [rows for rows in forms if rows[-1].strip(".")]


def classes_fit(rows):
    found = {letter for row in rows for letter in row if letter.isdigit()}
    return len(found) >= 2 and found == {str(number) for number in range(len(found))}


def random_rows(source, longest, classes):
    """Rows whose classes go up with the share of the marked rows, more or less."""
    rows = ["-"]
    while "-" in rows[-1]:
        m = len(rows)
        letters = []
        for k in range(m + 1):
            known = "-" in rows[-1][max(0, k - 1):k + 1]
            number = round((classes - 1) * k / m + source.choice((-0.4, -0.2, 0, 0, 0.2, 0.4)))
            number = min(max(number, 0), classes - 1)
            going = m < longest and source.random() < 0.6
            letters.append(("-" if going else str(number)) if known else ".")
        rows.append("".join(letters))
    return tuple(rows)


def random_plans(seed, many, longest=7):
    """Rising plans of many forms."""
    source = random.Random(seed)
    plans = []
    while len(plans) < many:
        rows = random_rows(source, source.randint(1, longest), source.randint(2, 4))
        if len(rows) > 1 and classes_fit(rows) and is_rising(rows):
            plans.append(Plan(*rows))
    return plans


def some_plans():
    """Plans of the kinds that the document names, with longest looks that all marks can be tried for."""
    fixed = [
        Plan.fixed(1, 0), Plan.fixed(2, 0), Plan.fixed(2, 1), Plan.fixed(3, 0, 1), Plan.fixed(4, 0, 1, 2, 3),
        Plan.fixed(7, 0, 1, 2, 3, 4, 5, 6), Plan.fixed(8, 3, 5),
    ]
    looks = [Plan.looks((1, 0)), Plan.looks((2, 0), (4, 1)), Plan.looks((2, 1), (4, 0)), Plan.looks((1, 0), (3, 1), (7, 2))]
    plans = fixed + looks + random_plans(1, 25)
    plans += [plan.curtailed() for plan in plans] + [plan.flipped() for plan in plans]
    return plans


def counted_draws(plan, size, marked):
    """The numbers of the draws of each class and the rows looked at in all of them, draw by draw."""
    table = [1] * marked + [0] * (size - marked)
    counts, looked = [0] * plan.classes, 0
    for draw in permutations(range(size), plan.longest):
        number, many = run(plan.rows, tuple(table[row] for row in draw))
        counts[number] += 1
        looked += many
    return tuple(counts), looked
