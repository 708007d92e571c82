"""What the document promises over the whole program."""

import random
from fractions import Fraction

from drawclaims.certificates import certify_greatest, certify_holding, certify_slope
from drawclaims.checker import accepts
from drawclaims.claims import Claims
from drawclaims.comparing import same_classes
from drawclaims.counting import class_counts, draws, falling, mean_looked, up_to
from drawclaims.greatest import greatest_share, limit_share, near_greatest
from drawclaims.holding import failing, holds_always, holds_at, sizes_where, worst
from drawclaims.least import least_bounds, least_look, least_offsets, least_slopes, next_look
from drawclaims.lines import Line
from drawclaims.plans import Plan
from drawclaims.ratios import Ratio, is_share
from drawclaims.series import ladder_of, runs_of, value_at
from drawclaims.sizes import Sizes
from tests.claims_reference import fraction, random_claims, some_claims, worst_of_all
from tests.helpers import ProgramTest
from tests.reference import random_plans, some_plans
from tests.test_checker import claims_with_peaks

HALF = Claims(Plan.fixed(2, 0), 2, (1, 0))
SHARES = (Ratio(0), Ratio(1, 1000), Ratio(1, 20), Ratio(1, 5), Ratio(1, 4), Ratio(1, 2), Ratio(9, 10))


def near_shares(share):
    """Shares beside a ratio, and the ratio itself if it is a share."""
    rounded = Ratio((share * 10 ** 9).floor, 10 ** 9)
    near = (share, rounded, rounded + Ratio(1, 10 ** 9), rounded - Ratio(1, 10 ** 9))
    return [each for each in near if is_share(each)]


class AllTablesTest(ProgramTest):
    def test_greatest_share_and_all_tables(self):
        for claims in random_claims(1, 25) + claims_with_peaks()[:6]:
            share, size, marked = greatest_share(claims)
            longest = claims.plan.longest
            found = [(at,) + worst_of_all(claims, at) for at in range(longest, longest + 30)]
            self.assertTrue(all(part <= fraction(share) for _, part, _ in found))
            equal = [(at, rows) for at, part, rows in found if part == fraction(share)]
            if size is None:
                self.assertEqual(equal, [])
            elif size < longest + 30:
                self.assertEqual(equal[0], (size, marked))

    def test_hold_always_exactly_from_the_greatest_share_on(self):
        for claims in random_claims(2, 60, 5) + some_claims() + claims_with_peaks():
            for from_size in (1, 40, 10 ** 30):
                share = greatest_share(claims, from_size=from_size)[0]
                for other in near_shares(share) + list(SHARES):
                    holds = holds_always(claims, other, from_size=from_size)
                    self.assertIs(holds, other >= share)
                    self.assertIs(failing(claims, other, from_size=from_size) is None, holds)
                    self.assertIs(sizes_where(claims, other, from_size=from_size).whole_from == max(claims.plan.longest, from_size), holds)

    def test_near_greatest(self):
        for claims in random_claims(3, 40) + claims_with_peaks():
            share = greatest_share(claims)[0]
            for gap in (Ratio(1, 100), Ratio(1, 10 ** 30)):
                size, marked = near_greatest(claims, gap)
                self.assertTrue(share - gap < claims.wrong_share(size, marked) <= share)

    def test_least_slopes_and_no_lesser_ones(self):
        source = random.Random(4)
        tried = 0
        for plan in random_plans(4, 30, 5) + [Plan.fixed(4, 0, 1, 2, 3)]:
            for _ in range(3):
                share, bottom, offset = source.choice(SHARES), source.choice((1, 3, 10, 24)), source.choice((0, 0, 2, 40))
                from_size = source.choice((1, 25))
                slopes = least_slopes(plan, share, bottom, offset=offset, from_size=from_size)
                claims = Claims(plan, bottom, *[(slope, offset) for slope in slopes])
                self.assertIs(holds_always(claims, share, from_size=from_size), True)
                self.assertTrue(greatest_share(claims, from_size=from_size)[0] <= share)
                for number, slope in enumerate(slopes):
                    if slope > (slopes[number - 1] if number else 0):
                        tried += 1
                        less = [(each - (at == number), offset) for at, each in enumerate(slopes)]
                        self.assertIs(holds_always(Claims(plan, bottom, *less), share, from_size=from_size), False)
        self.assertGreater(tried, 60)

    def test_curtailed_plans_count_alike(self):
        for plan in some_plans():
            short = plan.curtailed()
            self.assertTrue(same_classes(plan, short) and short.curtailed() == short)
            for size, marked in ((plan.longest, 1), (plan.longest + 5, plan.longest), (10 ** 9, 10 ** 8)):
                parts = [[Fraction(count, draws(each, size)) for count in class_counts(each, size, marked)] for each in (plan, short)]
                self.assertEqual(*parts)
                self.assertTrue(mean_looked(short, size, marked) <= mean_looked(plan, size, marked))

    def test_certificates_of_great_plans(self):
        for looked, limits in ((20, (0, 3, 9, 17)), (19, (18,)), (17, (0, 1, 2, 3, 4, 5, 6))):
            plan = Plan.fixed(looked, *limits)
            claims = Claims(plan, 24, *[(3 * at + 2, 3 * at) for at in range(len(limits))])
            for pair in (certify_greatest(claims), certify_holding(claims, Ratio(1, 9)), certify_slope(plan, 0, Ratio(1, 9), 24)):
                self.assertIs(accepts(*pair), True)


class ByNameTest(ProgramTest):
    """Functions that have arguments by name, in another order, and with what may be left out left out."""

    def test_calls(self):
        plan, share = HALF.plan, Ratio(1, 5)
        for found, wanted in (
            (falling(times=3, top=7), falling(7, 3)), (draws(size=9, plan=plan), draws(plan, 9)),
            (class_counts(marked=2, size=9, plan=plan), class_counts(plan, 9, 2)), (up_to(marked=2, size=9, number=0, plan=plan), up_to(plan, 0, 9, 2)),
            (mean_looked(marked=2, size=9, plan=plan), mean_looked(plan, 9, 2)), (value_at(place=4, series=(1, 2)), value_at((1, 2), 4)),
            (runs_of(series=(1, -2)), runs_of((1, -2))), (ladder_of(series=(1, -2)), ladder_of((1, -2))),
            (worst(size=9, claims=HALF), worst(HALF, 9)), (holds_at(size=9, share=share, claims=HALF), holds_at(HALF, share, 9)),
            (sizes_where(share=share, claims=HALF), sizes_where(HALF, share, from_size=1)),
            (holds_always(share=share, claims=HALF), holds_always(HALF, share, from_size=1)),
            (failing(from_size=20, share=share, claims=HALF), failing(HALF, share, from_size=20)),
            (limit_share(number=0, claims=HALF), limit_share(HALF, 0)), (greatest_share(claims=HALF), greatest_share(HALF, from_size=1)),
            (near_greatest(gap=share, claims=HALF), near_greatest(HALF, share, from_size=1)),
            (least_bounds(size=9, share=share, plan=plan), least_bounds(plan, share, 9)),
            (least_slopes(bottom=9, share=share, plan=plan), least_slopes(plan, share, 9, from_size=1, offset=0)),
            (least_offsets(slope=6, bottom=10, share=share, plan=plan), least_offsets(plan, share, 10, 6, from_size=1)),
            (least_look(slope=1, bottom=2, share=share), least_look(share, 2, 1, from_size=1, allowed=0, offset=0)),
            (next_look(share, 2, 1, (2, 0)), next_look(share, 2, 1, (2, 0), from_size=1, allowed=0, offset=0)),
            (certify_holding(share=share, claims=HALF), certify_holding(HALF, share, from_size=1)),
            (certify_slope(bottom=2, share=share, number=0, plan=plan), certify_slope(plan, 0, share, 2, from_size=1, offset=0)),
            (Ratio(bottom=4, top=2), Ratio(1, 2)), (Line(b=1, a=2), Line(0, a=2, b=1)), (Sizes.span(last=4, first=2), Sizes.span(2, 4)),
            (Sizes.span(first=2), Sizes.span(2, None)), (HALF.bound(size=7, number=0), 3), (HALF.wrong(marked=4, size=7), 6),
            (HALF.wrong_share(marked=4, size=7), Ratio(1, 7)), (HALF.line(name="a", number=0), Line(a=Ratio(1, 2))),
            (plan(marks=(0, 1)), (1, 2)), (plan.leads(k=0, m=1), (0, 1)), (plan.settles(k=0, m=1), (1, 1)), (plan.ways(k=1, m=2), 2),
        ):
            self.assert_same(found, wanted)
