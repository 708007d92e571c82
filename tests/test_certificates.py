import random

from drawclaims.certificates import (
    certify_bounds, certify_comparison, certify_greatest, certify_holding, certify_sinking, certify_slope,
)
from drawclaims.checker import accepts
from drawclaims.claims import Claims
from drawclaims.comparing import parting_marks, same_classes
from drawclaims.counting import draws, up_to
from drawclaims.errors import InvalidNumber, InvalidRows, InvalidShare, InvalidSize, NotAPlan, NotClaims, NotRising
from drawclaims.greatest import greatest_share
from drawclaims.holding import failing, holds_always
from drawclaims.least import least_bounds, least_slopes
from drawclaims.plans import Plan
from drawclaims.ratios import Ratio
from tests.certificate_reference import class_ladders, deep, ladders
from tests.claims_reference import random_claims, some_claims
from tests.helpers import OTHER, ProgramTest
from tests.reference import classes_fit, each_form, is_rising, random_plans, run, some_plans
from tests.test_checker import claims_with_peaks, sinking_rows

NO_INTEGERS = (True, False, None, "1", "", b"1", (), (1,), [], [1], {}, Ratio(2), OTHER)
NO_SHARES = (True, False, None, 0, 1, "1/2", (1, 2), [], OTHER, Ratio(1), Ratio(-1, 2), Ratio(3, 2), Ratio(1, 10 ** 9 + 1))
NO_PLANS = NO_INTEGERS + ("- 01", ("-", "01"), Plan)
SHARES = (Ratio(0), Ratio(1, 1000), Ratio(1, 20), Ratio(1, 5), Ratio(1, 4), Ratio(1, 2), Ratio(9, 10))
HALF = Claims(Plan.fixed(2, 0), 2, (1, 0))
GREATEST = 10 ** 150
FAR = 10 ** 30


def pair_of(ratio):
    return ratio.top, ratio.bottom


class HoldingTest(ProgramTest):
    def test_pairs(self):
        held = 0
        for claims in random_claims(1, 50, 5) + some_claims() + claims_with_peaks():
            for share in SHARES:
                for from_size in (1, 30, FAR):
                    pair = certify_holding(claims, share, from_size=from_size)
                    parts = (claims.plan.rows, claims.bottom, claims.lines, pair_of(share))
                    if holds_always(claims, share, from_size=from_size):
                        held += 1
                        self.assert_same(pair[0], ("always",) + parts + (from_size,))
                    else:
                        self.assert_same(pair, (("fails",) + parts + failing(claims, share, from_size=from_size), ()))
                    self.assertIs(accepts(*pair), True)
                    self.assert_same(certify_holding(from_size=from_size, share=share, claims=claims), pair)
            self.assert_same(certify_holding(claims, SHARES[3]), certify_holding(claims, SHARES[3], from_size=1))
        self.assertGreater(held, 150)

    def test_ladders(self):
        for claims in random_claims(2, 30) + some_claims():
            share = greatest_share(claims)[0]
            if share < 1 and share.bottom <= 10 ** 9:
                self.assert_same(certify_holding(claims, share)[1], ladders(claims, share, claims.plan.longest))

    def test_errors(self):
        for wrong in NO_INTEGERS + (HALF.plan,):
            self.assert_error(NotClaims, {"value": wrong}, certify_holding, wrong, None, from_size=None)
        for wrong in NO_SHARES:
            self.assert_error(InvalidShare, {"value": wrong}, certify_holding, HALF, wrong, from_size=None)
        for wrong in NO_INTEGERS + (0, -1, FAR + 1):
            self.assert_error(InvalidSize, {"value": wrong}, certify_holding, HALF, Ratio(0), from_size=wrong)
        with self.assertRaises(TypeError):
            certify_holding(HALF, Ratio(0), 1)


class GreatestTest(ProgramTest):
    def test_pairs(self):
        reached = 0
        for claims in random_claims(3, 60, 5) + some_claims() + claims_with_peaks():
            for from_size in (1, 30, FAR):
                pair = certify_greatest(claims, from_size=from_size)
                share, size, marked = greatest_share(claims, from_size=from_size)
                parts = (claims.plan.rows, claims.bottom, claims.lines, from_size, pair_of(share), size, marked)
                self.assert_same(pair[0], ("greatest",) + parts)
                self.assertIs(accepts(*pair), True)
                self.assert_same(certify_greatest(from_size=from_size, claims=claims), pair)
                reached += size is not None
            self.assert_same(certify_greatest(claims), certify_greatest(claims, from_size=1))
        self.assertTrue(60 < reached < 200)

    def test_forms(self):
        claim, certificate = certify_greatest(HALF)
        self.assert_same(claim, ("greatest", ("-", "--", "011"), 2, ((1, 0),), 1, (1, 4), None, None))
        above, (number, beside) = certificate
        start = HALF.plan.longest
        self.assert_same((above, number, beside), (ladders(HALF, Ratio(1, 4), start), 0, ladders(HALF, Ratio(1, 4), start, 1)))
        self.assert_same(certify_greatest(Claims(Plan.fixed(1, 0), 1, (0, -1)))[1], ((), ()))
        one = Claims(Plan.fixed(1, 0), 1, (0, 1))
        self.assert_same(certify_greatest(one)[1], ((), (0, ladders(one, Ratio(1), 1, 1))))

    def test_great_claims(self):
        plan = Plan.fixed(20, 0, 2, 5, 8, 11, 14, 17)
        claims = Claims(plan, 24, *[(3 * number + 3, number) for number in range(7)])
        self.assertIs(accepts(*certify_greatest(claims)), True)
        self.assertIs(accepts(*certify_holding(claims, Ratio(9, 10), from_size=1000)), True)

    def test_errors(self):
        for wrong in NO_INTEGERS + (HALF.plan,):
            self.assert_error(NotClaims, {"value": wrong}, certify_greatest, wrong, from_size=None)
        for wrong in NO_INTEGERS + (0, -1, FAR + 1):
            self.assert_error(InvalidSize, {"value": wrong}, certify_greatest, HALF, from_size=wrong)
        with self.assertRaises(TypeError):
            certify_greatest(HALF, 1)


class BoundsTest(ProgramTest):
    def test_pairs(self):
        for plan in random_plans(4, 25, 6) + [Plan.fixed(20, 1, 5, 9)]:
            for share in SHARES:
                for size in (plan.longest, plan.longest + 3, 1000, GREATEST):
                    pair = certify_bounds(plan, share, size)
                    bounds = least_bounds(plan, share, size)
                    self.assert_same(pair, (("bounds", plan.rows, pair_of(share), size, bounds), ()))
                    self.assertIs(accepts(*pair), True)
        self.assert_same(certify_bounds(size=9, share=SHARES[2], plan=HALF.plan), certify_bounds(HALF.plan, SHARES[2], 9))

    def test_errors(self):
        for wrong in NO_PLANS:
            self.assert_error(NotAPlan, {"value": wrong}, certify_bounds, wrong, None, None)
        for wrong in NO_SHARES:
            self.assert_error(InvalidShare, {"value": wrong}, certify_bounds, HALF.plan, wrong, None)
        for wrong in NO_INTEGERS + (0, 1, -5, GREATEST + 1):
            self.assert_error(InvalidSize, {"value": wrong}, certify_bounds, HALF.plan, Ratio(0), wrong)


class SlopeTest(ProgramTest):
    def test_pairs(self):
        source = random.Random(5)
        slopes = set()
        for plan in random_plans(5, 25, 6) + [Plan.fixed(2, 0), Plan.fixed(7, 0, 1, 2, 3, 4, 5, 6)]:
            for _ in range(4):
                share, bottom = source.choice(SHARES), source.choice((1, 2, 7, 24))
                offset, from_size = source.choice((0, 1, 30, 1000)), source.choice((1, 12, 2000, FAR))
                least = least_slopes(plan, share, bottom, offset=offset, from_size=from_size)
                for number, slope in enumerate(least):
                    pair = certify_slope(plan, number, share, bottom, offset=offset, from_size=from_size)
                    self.assert_same(pair[0], ("slope", plan.rows, number, bottom, offset, pair_of(share), from_size, slope))
                    self.check_size(plan, pair, share)
                    self.assertIs(accepts(*pair), True)
                    again = certify_slope(from_size=from_size, offset=offset, bottom=bottom, share=share, number=number, plan=plan)
                    self.assert_same(again, pair)
                    slopes.add(slope)
        self.assertGreater(len(slopes), 15)
        plain = certify_slope(HALF.plan, 0, SHARES[1], 24)
        self.assert_same(plain, certify_slope(HALF.plan, 0, SHARES[1], 24, offset=0, from_size=1))

    def check_size(self, plan, pair, share):
        _, _, number, bottom, offset, _, from_size, slope = pair[0]
        size = pair[1][1]
        if slope == 0:
            self.assertIs(size, None)
        else:
            self.assertTrue(max(plan.longest, from_size) <= size < GREATEST)
            marked = ((slope - 1) * size + offset) // bottom + 1
            self.assertTrue(Ratio(up_to(plan, number, size, marked), draws(plan, size)) > share)

    def test_shares_that_are_reached(self):
        tried = 0
        for plan in random_plans(6, 12, 4) + [Plan.fixed(2, 0), Plan.fixed(4, 0, 1, 2)]:
            for bottom, slope, offset in ((5, 3, 0), (10, 7, 2), (3, 2, 1)):
                share, size, _ = greatest_share(Claims(plan, bottom, *[(slope, offset)] * (plan.classes - 1)))
                if 0 < share < 1 and share.bottom <= 10 ** 9:
                    tried += size is not None
                    number = plan.classes - 2
                    pair = certify_slope(plan, number, share, bottom, offset=offset)
                    self.assert_same(pair[0][7], least_slopes(plan, share, bottom, offset=offset)[number])
                    wanted = class_ladders(plan, number, bottom, (pair[0][7], offset), share, plan.longest)
                    self.assert_same((pair[1][0], accepts(*pair)), (wanted, True))
        self.assertGreater(tried, 5)

    def test_near_to_the_limit(self):
        # A share that is a little less than the limit is exceeded at great sizes only.
        claims = Claims(Plan.fixed(3, 0), 2, (1, 0))
        share = Ratio(124999999, 10 ** 9)
        for pair in (certify_slope(claims.plan, 0, share, 2), certify_holding(claims, share), certify_holding(claims, share, from_size=FAR)):
            self.assertIs(accepts(*pair), True)
        self.assertGreater(certify_slope(claims.plan, 0, share, 2, offset=0)[0][7], 1)

    def test_errors(self):
        plan = Plan.fixed(3, 0, 1)
        for wrong in NO_PLANS:
            self.assert_error(NotAPlan, {"value": wrong}, certify_slope, wrong, None, None, None, offset=None, from_size=None)
        for wrong in NO_INTEGERS + (-1, 2, 3):
            self.assert_error(InvalidNumber, {"number": wrong}, certify_slope, plan, wrong, None, None, offset=None)
        for wrong in NO_SHARES:
            self.assert_error(InvalidShare, {"value": wrong}, certify_slope, plan, 1, wrong, None, offset=None)
        for wrong in NO_INTEGERS + (0, -1, 25):
            self.assert_error(InvalidNumber, {"number": wrong}, certify_slope, plan, 1, Ratio(0), wrong, offset=[0])
        for wrong in NO_INTEGERS + (-1, 1001):
            self.assert_error(InvalidNumber, {"number": wrong}, certify_slope, plan, 1, Ratio(0), 1, from_size=None, offset=wrong)
        for wrong in NO_INTEGERS + (0, -1, FAR + 1):
            self.assert_error(InvalidSize, {"value": wrong}, certify_slope, plan, 1, Ratio(0), 1, from_size=wrong)
        with self.assertRaises(TypeError):
            certify_slope(plan, 1, Ratio(0), 1, 0)


class ComparisonTest(ProgramTest):
    def test_pairs(self):
        alike = 0
        plans = some_plans()[::3]
        for plan in plans:
            for other in plans:
                pair = certify_comparison(plan, other)
                if same_classes(plan, other):
                    alike += 1
                    self.assert_same(pair, (("alike", plan.rows, other.rows), ()))
                else:
                    self.assert_same(pair, (("unlike", plan.rows, other.rows), parting_marks(plan, other)))
                self.assertIs(accepts(*pair), True)
        self.assertGreater(alike, len(plans))
        pair = certify_comparison(other=Plan.fixed(1, 0), plan=HALF.plan)
        self.assert_same(pair, (("unlike", HALF.plan.rows, ("-", "01")), (0, 1)))

    def test_errors(self):
        for wrong in NO_PLANS:
            self.assert_error(NotAPlan, {"value": wrong}, certify_comparison, wrong, None)
            self.assert_error(NotAPlan, {"value": wrong}, certify_comparison, HALF.plan, wrong)


class SinkingTest(ProgramTest):
    def test_pairs(self):
        for rows in sinking_rows(6, 60):
            claim, (marks, place) = certify_sinking(*rows)
            self.assert_same(claim, ("sinking", rows))
            self.assert_same((len(marks), marks[place]), (len(rows) - 1, 0))
            more = marks[:place] + (1,) + marks[place + 1:]
            self.assertLess(run(rows, more)[0], run(rows, marks)[0])
            self.assertIs(accepts(claim, (marks, place)), True)
            self.assert_same(certify_sinking(*rows), (claim, (marks, place)))

    def test_none_for_plans(self):
        for plan in some_plans():
            self.assertIs(certify_sinking(*plan.rows), None)
        for rows in each_form(3, "01"):
            if classes_fit(rows):
                self.assertIs(certify_sinking(*rows) is None, is_rising(rows))

    def test_errors(self):
        for rows in (
            (), ("-",), ("-",) * 22, ("-", "--"), ("-", "00"), ("-", "02"), ("-", "10", "..."), ("-", None), (None, "01"), ("-", 1), ("-", "0-", ".2."),
            ("-", deep(69)), ("-", ["0", "1"]), (OTHER, "10"), ("-", "--", "-01", "1..."),
        ):
            with self.assertRaises(InvalidRows) as wanted:
                Plan(*rows)
            self.assert_error(InvalidRows, {"index": wanted.exception.index}, certify_sinking, *rows)
        with self.assertRaises(NotRising):
            Plan("-", "10")
        self.assert_same(certify_sinking("-", "10"), (("sinking", ("-", "10")), ((0,), 0)))
