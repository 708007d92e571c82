"""Slow and plain ways to find what is said of claims, and claims to try it on."""

import random
from fractions import Fraction
from itertools import permutations

from drawclaims.claims import Claims
from drawclaims.plans import Plan
from drawclaims.ratios import Ratio
from tests.reference import random_plans, run


def ratio(fraction):
    return Ratio(fraction.numerator, fraction.denominator)


def fraction(ratio):
    return Fraction(ratio.top, ratio.bottom)


def bound(claims, number, size):
    if number == claims.plan.classes - 1:
        return size
    slope, offset = claims.lines[number]
    return Fraction(slope * size + offset, claims.bottom).__floor__()


def wrong_draws(claims, size, marked):
    """The number of wrong draws, draw by draw."""
    table = [1] * marked + [0] * (size - marked)
    wrong = 0
    for draw in permutations(range(size), claims.plan.longest):
        number = run(claims.plan.rows, tuple(table[row] for row in draw))[0]
        wrong += bound(claims, number, size) < marked
    return wrong


def products(top, most):
    values = [1]
    for times in range(most):
        values.append(values[-1] * (top - times))
    return values


def wrong_part(claims, size, marked):
    """The wrong share, by the numbers of draws that the stops of the plan have."""
    longest = claims.plan.longest
    ones, others = products(marked, longest), products(size - marked, longest)
    wrong = Fraction(0)
    every = products(size, longest)
    for m, row in enumerate(claims.plan.rows):
        for k, letter in enumerate(row):
            if letter.isdigit() and bound(claims, int(letter), size) < marked:
                wrong += Fraction(claims.plan.ways(m, k) * ones[k] * others[m - k], every[m])
    return wrong


def worst_of_all(claims, size):
    """The greatest wrong share over all numbers of marked rows, and the least of them with it."""
    shares = [wrong_part(claims, size, marked) for marked in range(size + 1)]
    most = max(shares)
    return most, shares.index(most)


def random_lines(source, plan, bottom, offsets):
    """Lines that rise; about half of them are near to a line that the plan can hold with."""
    lines = []
    slope, offset = 0, -1000
    for left in range(plan.classes - 1, 0, -1):
        for _ in range(1000):
            pair = (source.randint(slope, bottom), source.randint(-offsets, offsets))
            if not lines or pair[0] * plan.longest + pair[1] >= slope * plan.longest + offset:
                break
        else:
            pair = (slope, offset)
        lines.append(pair)
        slope, offset = pair
    return lines


def random_claims(seed, many, longest=4, bottoms=(1, 2, 3, 4, 5, 7, 12, 24), offsets=6):
    source = random.Random(seed)
    plans = random_plans(seed, 20, longest)
    found = []
    for _ in range(many):
        plan, bottom = source.choice(plans), source.choice(bottoms)
        found.append(Claims(plan, bottom, *random_lines(source, plan, bottom, source.choice((0, 1, offsets)))))
    return found


def some_claims():
    """Claims of the kinds that the document names."""
    two, three, looks = Plan.fixed(2, 0), Plan.fixed(3, 0, 1), Plan.looks((2, 0), (4, 1))
    return [
        Claims(two, 2, (1, 0)), Claims(two, 1, (0, 1)), Claims(two, 1, (1, -1)), Claims(two, 1, (1, 0)),
        Claims(two, 10, (6, -8)), Claims(two, 24, (13, 5)), Claims(three, 3, (1, 0), (2, 0)),
        Claims(three, 4, (3, -9), (4, -12)), Claims(three, 4, (0, -1), (0, 7)), Claims(looks, 2, (1, 0)),
        Claims(looks.curtailed(), 5, (3, 2)), Claims(Plan.fixed(2, 0, 1), 1, (1, -2), (1, -1)),
        Claims(Plan.fixed(1, 0), 1, (0, 1)), Claims(Plan.fixed(1, 0), 7, (0, -1000)), Claims(Plan.fixed(4, 0, 1, 2), 6, (1, 0), (3, 0), (5, 0)),
    ]
