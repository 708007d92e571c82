import random
from fractions import Fraction
from itertools import product
from math import comb

from drawclaims.claims import Claims
from drawclaims.errors import InvalidNumber, InvalidRatio, InvalidSize, NotClaims
from drawclaims.greatest import greatest_share, limit_share, near_greatest
from drawclaims.holding import holds_always, worst
from drawclaims.plans import Plan
from drawclaims.ratios import Ratio, is_share
from tests.claims_reference import fraction, random_claims, random_lines, ratio, some_claims, wrong_part
from tests.helpers import OTHER, ProgramTest
from tests.reference import all_marks, random_plans, run

NO_INTEGERS = (True, False, None, "1", "", b"1", (), (1,), [], [1], {}, Ratio(2), OTHER)
HALF = Claims(Plan.fixed(2, 0), 2, (1, 0))
FAR = 10 ** 30
LITTLE = Ratio(1, FAR)
GAPS = (Ratio(10 ** 9), Ratio(1), Ratio(1, 7), Ratio(1, 10 ** 6), LITTLE)


def first_size(claims, from_size=1):
    return max(claims.plan.longest, from_size)


def claims_that_rise_above_their_limits():
    """Claims of which some tables have greater shares than all limits."""
    two, three = Plan.fixed(2, 0), Plan.fixed(3, 0, 1)
    return [
        Claims(two, 10, (6, -8)), Claims(two, 3, (2, -7)), Claims(three, 4, (2, -3), (3, -4)),
        Claims(three, 3, (1, -1), (2, 0)), Claims(Plan.looks((1, 0), (3, 1)), 2, (1, -1)), Claims(two, 24, (23, 0)),
        Claims(Plan.fixed(3, 1), 4, (3, 2)), Claims(Plan.fixed(4, 1, 2), 2, (1, 1), (1, 2)),
        Claims(Plan.fixed(6, 2), 7, (5, -6)), Claims(Plan.fixed(6, 2, 3), 5, (4, -3), (4, 0)),
    ]


class LimitTest(ProgramTest):
    def test_sum_over_all_marks(self):
        plans = random_plans(1, 30, 4) + [Plan.fixed(4, 0, 1, 2, 3), Plan.looks((1, 0), (3, 1), (4, 2))]
        source = random.Random(1)
        for plan in plans:
            for bottom in (1, 2, 5, 24):
                claims = Claims(plan, bottom, *random_lines(source, plan, bottom, 9))
                for number in range(plan.classes - 1):
                    part = Fraction(claims.lines[number][0], bottom)
                    total = Fraction(0)
                    for marks in all_marks(plan.longest):
                        if run(plan.rows, marks)[0] <= number:
                            total += part ** sum(marks) * (1 - part) ** (plan.longest - sum(marks))
                    self.assert_same(limit_share(claims, number), ratio(total))

    def test_fixed_plans(self):
        for looked, limits in ((1, (0,)), (7, (0, 2, 5)), (13, (3,)), (20, (0, 9, 19)), (20, (1, 2, 3, 4, 5, 6, 18))):
            plan = Plan.fixed(looked, *limits)
            for bottom, slope in ((1, 0), (1, 1), (2, 1), (24, 23), (24, 0), (24, 24), (23, 7)):
                claims = Claims(plan, bottom, *[(slope, 3)] * len(limits))
                part = Fraction(slope, bottom)
                for number, limit in enumerate(limits):
                    terms = [comb(looked, k) * part ** k * (1 - part) ** (looked - k) for k in range(limit + 1)]
                    self.assert_same(limit_share(claims, number), ratio(sum(terms)))

    def test_edges(self):
        claims = Claims(Plan.fixed(2, 0, 1), 3, (0, -5), (3, 1000))
        self.assert_same((limit_share(claims, 0), limit_share(number=1, claims=claims)), (Ratio(1), Ratio(0)))
        for curtailed in (Claims(Plan.fixed(5, 1), 7, (3, 0)), Claims(Plan.fixed(5, 1).curtailed(), 7, (3, 0))):
            self.assert_same(limit_share(curtailed, 0), ratio(Fraction(4 ** 5 + 5 * 3 * 4 ** 4, 7 ** 5)))

    def test_errors(self):
        for wrong in NO_INTEGERS + (Plan.fixed(2, 0), Claims):
            self.assert_error(NotClaims, {"value": wrong}, limit_share, wrong, None)
        for wrong in NO_INTEGERS + (-1, 1, 2, FAR):
            self.assert_error(InvalidNumber, {"number": wrong}, limit_share, HALF, wrong)
        three = Claims(Plan.fixed(3, 0, 1), 2, (0, 0), (1, 0))
        self.assert_error(InvalidNumber, {"number": 2}, limit_share, three, 2)
        self.assert_same(limit_share(three, 1), Ratio(1, 2))


def one_row_greatest(bottom, slope, offset, from_size):
    """The greatest share where one row is looked at, rest by rest; the least size with it."""
    claims = []
    for rest in range(bottom):
        # With offsets up to 1000 a bound that can come below the size is so at sizes up to 1000.
        sizes = range(rest, from_size + 1000 + 2 * bottom, bottom)
        size = next((n for n in sizes if n >= from_size and (slope * n + offset) // bottom < n), None)
        if size is None:
            continue
        bound = (slope * size + offset) // bottom
        if bound < 0:
            claims.append((Fraction(1), size))
            continue
        # The share is (size - bound - 1) / size from here on, and each step adds bottom - slope above, bottom below.
        share, limit = Fraction(size - bound - 1, size), Fraction(bottom - slope, bottom)
        claims.append((share, size) if share >= limit else (limit, None))
    most = max([share for share, _ in claims], default=Fraction(0))
    if most == 0:
        return most, from_size
    return most, min([size for share, size in claims if share == most and size is not None], default=None)


class OneRowTest(ProgramTest):
    def test_all_bottoms(self):
        source = random.Random(2)
        for bottom in range(1, 25):
            for _ in range(12):
                slope = source.choice((0, bottom, source.randint(0, bottom)))
                offset = source.choice((0, -1, 1, source.randint(-30, 30), source.randint(-1000, 1000)))
                for from_size in (1, 2, source.randint(1, 100)):
                    self.check(bottom, slope, offset, from_size)

    def check(self, bottom, slope, offset, from_size):
        claims = Claims(Plan.fixed(1, 0), bottom, (slope, offset))
        share, size = one_row_greatest(bottom, slope, offset, from_size)
        found = greatest_share(claims, from_size=from_size)
        self.assert_same(found[:2], (ratio(share), size))
        if size is None:
            self.assert_same(found[2], None)
        else:
            self.assert_same(found[2], 0 if share == 0 else max(0, (slope * size + offset) // bottom + 1))


class GreatestTest(ProgramTest):
    def check(self, claims, from_size, source, gaps=GAPS):
        share, size, marked = greatest_share(claims, from_size=from_size)
        start = first_size(claims, from_size)
        self.assertIs(type(share), Ratio)
        self.assertTrue(0 <= share <= 1)
        sizes = list(range(start, start + 40)) + [source.randint(start, start + 10 ** source.randint(2, 30)) for _ in range(15)]
        for other in sizes:
            most, first = worst(claims, other)
            self.assertTrue(most <= share)
            self.assertTrue(size is not None or most < share)
            if size is not None and other < size:
                self.assertTrue(most < share)
        if size is None:
            self.assert_same(marked, None)
            self.assertIn(share, [limit_share(claims, number) for number in range(claims.plan.classes - 1)])
        else:
            self.assertTrue(size >= start)
            self.assert_same(worst(claims, size), (share, marked))
            self.assert_same(claims.wrong_share(size, marked), share)
        self.check_near(claims, from_size, share, gaps)
        self.check_holding(claims, from_size, share)

    def check_near(self, claims, from_size, share, gaps):
        for gap in gaps:
            size, marked = near_greatest(claims, gap, from_size=from_size)
            self.assertTrue(first_size(claims, from_size) <= size and 0 <= marked <= size < 10 ** 150)
            self.assertTrue(share - gap < claims.wrong_share(size, marked) <= share)

    def check_holding(self, claims, from_size, share):
        near = [fraction(share).limit_denominator(10 ** 9), fraction(share).limit_denominator(10 ** 4)]
        near += [each + step for each in near for step in (Fraction(-1, 10 ** 4), Fraction(1, 10 ** 4))]
        for other in [ratio(each) for each in near] + [Ratio(0), Ratio(1, 2)]:
            if is_share(other):
                self.assert_same(holds_always(claims, other, from_size=from_size), share <= other)

    def test_kinds_of_claims(self):
        source = random.Random(3)
        for claims in some_claims() + claims_that_rise_above_their_limits():
            for from_size in (1, 3, 50, 10 ** 9, FAR):
                self.check(claims, from_size, source)

    def test_short_plans(self):
        source = random.Random(4)
        for claims in random_claims(5, 120, 3, (1, 2, 3, 4), 6):
            self.check(claims, source.choice((1, 1, 2, 9, FAR)), source)

    def test_other_bottoms(self):
        source = random.Random(6)
        for claims in random_claims(7, 60, 5, (5, 6, 7, 11, 12, 24), 1000) + random_claims(8, 40, 6, (2, 3, 5), 40):
            self.check(claims, source.choice((1, 1, 30, 10 ** 6)), source)

    def test_long_plans(self):
        source = random.Random(9)
        fixed = Plan.fixed(20, 2, 4, 6, 8, 10, 12, 14)
        for claims in (
            Claims(fixed, 24, (8, 0), (10, 0), (12, 0), (14, 0), (16, 0), (18, 0), (20, 0)),
            Claims(fixed, 5, (2, -30), (2, -20), (3, -40), (3, 0), (4, -17), (4, 0), (5, 0)),
            Claims(Plan.looks((6, 0), (12, 2), (20, 5)), 7, (4, -20)),
        ):
            for from_size in (1, 40, FAR):
                self.check(claims, from_size, source, (LITTLE,))

    def test_told_tables(self):
        for claims, wanted in (
            (HALF, (Ratio(1, 4), None, None)),
            (Claims(Plan.fixed(1, 0), 2, (0, -1)), (Ratio(1), 1, 0)),
            (Claims(Plan.fixed(1, 0), 3, (2, 0)), (Ratio(1, 3), None, None)),
            (Claims(Plan.fixed(1, 0), 3, (3, 0)), (Ratio(0), 1, 0)),
            (Claims(Plan.fixed(2, 0), 1, (1, -1)), (Ratio(0), 2, 0)),
            (Claims(Plan.fixed(2, 1), 1, (1, -1)), (Ratio(0), 2, 0)),
            (Claims(Plan.fixed(2, 1), 1, (1, -2)), (Ratio(1), 2, 1)),
            (Claims(Plan.fixed(2, 0), 10, (6, -8)), (Ratio(1, 5), 6, 3)),
            (Claims(Plan.fixed(2, 0, 1), 5, (1, 0), (3, 0)), (Ratio(2, 3), 3, 2)),
            # Here the share falls first and rises later.
            (Claims(Plan.fixed(2, 1), 4, (1, 1)), (Ratio(1), 2, 1)),
            (Claims(Plan.read("- 0- .01"), 7, (2, 1)), (Ratio(1), 2, 1)),
            (Claims(Plan.read("- -- 01- ..-2 ..--. ..-12. ..11..."), 4, (1, 0), (2, 0)), (Ratio(6, 7), 7, 4)),
        ):
            self.assert_same(greatest_share(claims), wanted)
        self.assert_same(greatest_share(HALF, from_size=10), (Ratio(1, 4), None, None))
        self.assert_same(greatest_share(from_size=FAR, claims=Claims(Plan.fixed(2, 1), 1, (1, -2))), (Ratio(2, FAR), FAR, FAR - 1))

    def test_reached_and_greater_than_the_limits(self):
        reached = 0
        for claims in claims_that_rise_above_their_limits():
            share, size, _ = greatest_share(claims)
            limits = [limit_share(claims, number) for number in range(claims.plan.classes - 1)]
            reached += size is not None and all(limit < share for limit in limits) and share < 1
        self.assertEqual(reached, 3)

    def test_tables_with_the_share_of_the_limit(self):
        # With one row of three, the share is 1/3 at each size that is a multiple of 3, and less at the others.
        claims = Claims(Plan.fixed(1, 0), 3, (2, -1))
        self.assert_same(greatest_share(claims, from_size=3), (Ratio(1, 3), 3, 2))
        self.assert_same(greatest_share(claims, from_size=4), (Ratio(1, 3), 6, 4))
        self.assert_same(greatest_share(Claims(Plan.fixed(1, 0), 3, (2, -3))), (Ratio(1), 1, 0))

    def test_greatest_share_at_a_later_size(self):
        # The share rises and falls again along the sizes with one rest.
        for text, bottom, lines, wanted in (
            ("- -- -1- 01-3 ..12.", 11, ((6, -1), (8, 0), (11, -1)), (Ratio(47, 91), 15, 11)),
            ("- -- -0- ---1 0001.", 24, ((19, 0),), (Ratio(1369, 3393), 29, 23)),
            ("- -- 0-1 .--. .011.", 4, ((3, -3),), (Ratio(2597, 29900), 26, 19)),
        ):
            claims = Claims(Plan.read(text), bottom, *lines)
            self.assert_same(greatest_share(claims), wanted)
            shares = [worst(claims, size)[0] for size in range(claims.plan.longest, 600)]
            self.assertTrue(all(share <= wanted[0] for share in shares))
            self.assert_same(shares.index(wanted[0]), wanted[1] - claims.plan.longest)
            self.check(claims, 1, random.Random(10))
            self.check(claims, wanted[1] + 1, random.Random(11))

    def test_shares_that_rise_and_fall_and_rise(self):
        claims = Claims(Plan.read("- -1 --. 00-. ..-1. ..01.."), 11, (2, 0))
        for from_size in (1, 20, 300):
            self.check(claims, from_size, random.Random(12))
            share = greatest_share(claims, from_size=from_size)[0]
            self.assertTrue(all(worst(claims, size)[0] <= share for size in range(max(5, from_size), 700)))

    def test_default_of_from_size(self):
        claims = Claims(Plan.fixed(1, 0), 1, (1, -2))
        self.assert_same((greatest_share(claims), greatest_share(claims, from_size=2)), ((Ratio(1), 1, 0), (Ratio(1, 2), 2, 1)))
        self.assert_same((near_greatest(claims, LITTLE), near_greatest(claims, LITTLE, from_size=2)), ((1, 0), (2, 1)))

    def test_errors(self):
        for wrong in NO_INTEGERS + (Plan.fixed(2, 0), Claims):
            self.assert_error(NotClaims, {"value": wrong}, greatest_share, wrong, from_size=0)
            self.assert_error(NotClaims, {"value": wrong}, near_greatest, wrong, None, from_size=0)
        for wrong in NO_INTEGERS + (0, -1, FAR + 1):
            self.assert_error(InvalidSize, {"value": wrong}, greatest_share, HALF, from_size=wrong)
            self.assert_error(InvalidSize, {"value": wrong}, near_greatest, HALF, LITTLE, from_size=wrong)
        gaps = tuple(wrong for wrong in NO_INTEGERS if not isinstance(wrong, Ratio))
        for wrong in gaps + (0, 1, 2, Ratio(0), Ratio(-1, 2), Ratio(1, FAR + 1), Ratio(-3)):
            self.assert_error(InvalidRatio, {"value": wrong}, near_greatest, HALF, wrong)
            self.assert_error(InvalidRatio, {"value": wrong}, near_greatest, from_size=0, gap=wrong, claims=HALF)
        for call in (lambda: greatest_share(HALF, 3), lambda: near_greatest(HALF, LITTLE, 3)):
            with self.assertRaises(TypeError):
                call()

    def test_equal_calls_and_claims_that_stay(self):
        claims = Claims(Plan.fixed(3, 0, 1), 3, (1, 0), (2, 0))
        for _ in range(2):
            self.assert_same(greatest_share(claims), greatest_share(Claims(Plan.fixed(3, 0, 1), 3, (1, 0), (2, 0))))
            self.assert_same(near_greatest(claims, LITTLE), near_greatest(claims, gap=LITTLE, from_size=1))
        self.assert_same(claims, Claims(Plan.fixed(3, 0, 1), 3, (1, 0), (2, 0)))
