import random
from fractions import Fraction

from drawclaims.claims import Claims
from drawclaims.errors import InvalidShare, InvalidSize, NotClaims
from drawclaims.holding import failing, holds_always, holds_at, sizes_where, worst
from drawclaims.plans import Plan
from drawclaims.ratios import Ratio
from drawclaims.sizes import Sizes
from tests.claims_reference import bound, fraction, random_claims, ratio, some_claims, worst_of_all, wrong_part
from tests.helpers import OTHER, ProgramTest

NO_INTEGERS = (True, False, None, "1", "", b"1", (), (1,), [], [1], {}, Ratio(2), OTHER)
NO_SHARES = (
    True, False, None, 0, 1, "1/2", b"", (1, 2), [], {}, OTHER, Ratio(1), Ratio(-1, 2), Ratio(5, 4),
    Ratio(1, 10 ** 9 + 1), Ratio(10 ** 20, 10 ** 20 + 1),
)
SHARES = (Ratio(0), Ratio(1, 20), Ratio(1, 5), Ratio(1, 4), Ratio(1, 3), Ratio(1, 2), Ratio(7, 8), Ratio(10 ** 9 - 1, 10 ** 9))
HALF = Claims(Plan.fixed(2, 0), 2, (1, 0))
GREATEST = 10 ** 150


def starts(claims, from_size=1):
    return max(claims.plan.longest, from_size)


def tops(claims, size):
    """The numbers of marked rows beside the bounds, and some others."""
    found = {0, 1, size // 3, size - 1, size}
    for number in range(claims.plan.classes):
        found |= {bound(claims, number, size) + step for step in (-2, -1, 0, 1, 2, 3)}
    return sorted(marked for marked in found if 0 <= marked <= size)


def near_shares(claims, size):
    """Shares near to the greatest wrong one at a size."""
    most = fraction(worst(claims, size)[0])
    near = [most, most - Fraction(1, 10 ** 4), most + Fraction(1, 10 ** 4), most.limit_denominator(10 ** 9)]
    return [ratio(share) for share in near if 0 <= share < 1 and share.denominator <= 10 ** 9]


class WorstTest(ProgramTest):
    def test_all_tables_of_small_sizes(self):
        for claims in some_claims() + random_claims(1, 60, 5):
            for size in range(claims.plan.longest, 12):
                share, marked = worst_of_all(claims, size)
                self.assert_same(worst(claims, size), (ratio(share), marked))
                for other in SHARES:
                    self.assert_same(holds_at(claims, other, size), share <= fraction(other))

    def test_great_sizes(self):
        source = random.Random(2)
        for claims in some_claims() + random_claims(3, 40, 7, offsets=1000):
            for size in (claims.plan.longest + 40, 1001, source.randint(10 ** 5, 10 ** 9), source.randint(10 ** 29, 10 ** 30)):
                share, marked = worst(claims, size)
                self.assert_same(ratio(wrong_part(claims, size, marked)), share)
                for other in tops(claims, size):
                    found = wrong_part(claims, size, other)
                    self.assertTrue(found < fraction(share) or found == fraction(share) and other >= marked)

    def test_no_draw_is_wrong(self):
        every = Claims(Plan.fixed(2, 0), 1, (1, 0))
        for size in (2, 3, 100, GREATEST):
            self.assert_same(worst(every, size), (Ratio(0), 0))
            self.assert_same(holds_at(every, Ratio(0), size), True)
        self.assert_same(worst(Claims(Plan.fixed(2, 0, 1), 1, (1, -2), (1, -1)), 9), (Ratio(0), 0))

    def test_all_draws_are_wrong(self):
        for claims in (Claims(Plan.fixed(2, 0), 3, (0, -1)), Claims(Plan.fixed(2, 0), 3, (1, -1000))):
            self.assert_same(worst(claims, 5), (Ratio(1), 0))
        self.assert_same(worst(Claims(Plan.fixed(2, 1), 3, (0, 0)), 5), (Ratio(1), 1))

    def test_edges(self):
        self.assert_same((worst(HALF, 7), worst(size=2, claims=HALF)), ((Ratio(1, 7), 4), (Ratio(0), 0)))
        self.assert_same((holds_at(HALF, Ratio(1, 7), 7), holds_at(HALF, Ratio(1, 8), 7)), (True, False))
        self.assert_same(holds_at(size=7, share=Ratio(1, 7), claims=HALF), True)

    def test_errors(self):
        for wrong in NO_INTEGERS + (Plan.fixed(2, 0), Claims):
            self.assert_error(NotClaims, {"value": wrong}, worst, wrong, None)
            self.assert_error(NotClaims, {"value": wrong}, holds_at, wrong, None, None)
        for wrong in NO_SHARES:
            self.assert_error(InvalidShare, {"value": wrong}, holds_at, HALF, wrong, -1)
        for wrong in NO_INTEGERS + (0, 1, -1, GREATEST + 1):
            self.assert_error(InvalidSize, {"value": wrong}, worst, HALF, wrong)
            self.assert_error(InvalidSize, {"value": wrong}, holds_at, HALF, Ratio(1, 2), wrong)
        self.assert_same(worst(HALF, GREATEST)[1], 5 * 10 ** 149 + 1)


class SizesTest(ProgramTest):
    def check(self, claims, share, from_size, most):
        sizes = sizes_where(claims, share, from_size=from_size)
        start = starts(claims, from_size)
        self.assert_same(sizes.modulus, claims.bottom)
        asked = set(range(max(0, start - 3), start + most))
        for ranges in sizes.ranges:
            for first, last in ranges:
                asked |= {first - claims.bottom, first, (last or first) + claims.bottom, last or 10 ** 40 + first}
        asked |= {start + 10 ** 6 + step for step in range(claims.bottom)} | {10 ** 100 + step for step in range(claims.bottom)}
        for size in asked:
            if size >= 0:
                wanted = size >= start and fraction(worst(claims, size)[0]) <= fraction(share)
                self.assert_same(size in sizes, wanted)
        self.check_failing(claims, share, from_size, sizes)

    def check_failing(self, claims, share, from_size, sizes):
        start = starts(claims, from_size)
        always = all(size in sizes for size in range(start, start + 60)) and sizes.whole_from == start
        found = failing(claims, share, from_size=from_size)
        self.assert_same(holds_always(claims, share, from_size=from_size), always)
        self.assert_same(Sizes.span(start) <= sizes, always)
        if always:
            self.assert_same(found, None)
        else:
            size, marked = found
            self.assert_same(marked, worst(claims, size)[1])
            self.assert_same(holds_at(claims, share, size), False)
            self.assert_same((Sizes.span(start) - sizes).after(start), size)
            self.assertTrue(all(other in sizes for other in range(start, min(size, start + 200))))

    def test_first_sizes_and_borders(self):
        source = random.Random(4)
        for claims in some_claims() + random_claims(5, 60, 5):
            self.check(claims, source.choice(SHARES), source.choice((1, 1, 2, 5, 30)), 60)

    def test_shares_near_to_those_of_tables(self):
        for claims in some_claims() + random_claims(6, 25, 4):
            for size in (claims.plan.longest, claims.plan.longest + 9, 70):
                for share in near_shares(claims, size):
                    self.check(claims, share, 1, 75)

    def test_all_bottoms(self):
        source = random.Random(7)
        for bottom in range(1, 25):
            for slope in {0, 1, bottom // 2, bottom - 1, bottom}:
                claims = Claims(Plan.fixed(3, 0, 1), bottom, (min(slope, bottom), -1), (min(slope + 1, bottom), 5))
                self.check(claims, source.choice(SHARES), 1, 30)

    def test_from_far_sizes(self):
        source = random.Random(8)
        for claims in some_claims() + random_claims(9, 20, 6, offsets=1000):
            for from_size in (1000, 10 ** 9 + 7, 10 ** 30):
                self.check(claims, source.choice(SHARES), from_size, 30)

    def test_far_offsets(self):
        for claims in random_claims(10, 25, 4, (1, 2, 3, 24), 1000):
            self.check(claims, Ratio(1, 3), 1, 40)

    def test_bounds_that_cross_the_sizes(self):
        # At first the bounds are not below the sizes, or they are below 0.
        one, two, three = Plan.fixed(1, 0), Plan.fixed(2, 1), Plan.fixed(3, 0, 2)
        for claims in (
            Claims(one, 3, (1, 17)), Claims(one, 5, (4, 12)), Claims(one, 3, (2, -11)), Claims(two, 7, (2, 30)),
            Claims(two, 4, (3, -14)), Claims(two, 24, (1, 300)), Claims(three, 3, (1, -9), (2, 9)),
            Claims(three, 6, (1, -40), (3, -20)), Claims(three, 2, (0, 11), (1, 13)),
        ):
            for share in SHARES:
                for from_size in (1, 6):
                    self.check(claims, share, from_size, 60)

    def test_default_of_from_size(self):
        # Only the table of one row without a mark makes these claims wrong too often.
        claims = Claims(Plan.fixed(1, 0), 1, (1, -2))
        self.assert_same(sizes_where(claims, Ratio(1, 2)).ranges, (((2, None),),))
        self.assert_same((failing(claims, Ratio(1, 2)), holds_always(claims, Ratio(1, 2))), ((1, 0), False))
        self.assert_same((failing(claims, Ratio(1, 2), from_size=2), holds_always(claims, Ratio(1, 2), from_size=2)), (None, True))

    def test_from_size_cuts_off(self):
        for claims in some_claims():
            whole = sizes_where(claims, Ratio(1, 5))
            for from_size in (1, 2, 3, 4, 7, 100, 10 ** 30):
                self.assert_same(sizes_where(claims, Ratio(1, 5), from_size=from_size), whole & Sizes.span(from_size))

    def test_curtailed_plans(self):
        for claims in some_claims() + random_claims(11, 40, 6):
            short = claims.plan.curtailed()
            try:
                other = Claims(short, claims.bottom, *claims.lines)
            except ValueError:
                continue  # The lines may rise from the longer look on only.
            for share in SHARES:
                wanted = sizes_where(claims, share)
                found = sizes_where(other, share, from_size=claims.plan.longest)
                self.assert_same((found == wanted, found.ranges), (True, wanted.ranges))

    def test_long_plans(self):
        plan = Plan.fixed(20, 2, 4, 6, 8, 10, 12, 14)
        for claims, share in (
            (Claims(plan, 24, (8, 0), (10, 0), (12, 0), (14, 0), (16, 0), (18, 0), (20, 0)), Ratio(1, 20)),
            (Claims(plan, 7, (2, 3), (3, 0), (4, 0), (5, 0), (6, 0), (6, 4), (7, 0)), Ratio(1, 100)),
            (Claims(Plan.looks((8, 0), (14, 2), (20, 5)), 5, (2, 0)), Ratio(1, 9)),
        ):
            for from_size in (1, 10 ** 30):
                self.check(claims, share, from_size, 200)

    def test_by_name(self):
        self.assert_same(sizes_where(from_size=20, share=Ratio(1, 5), claims=HALF).ranges, (((20, 24),), ()))
        self.assert_same(holds_always(from_size=3, share=Ratio(1, 5), claims=HALF), False)
        self.assert_same(failing(from_size=18, share=Ratio(1, 5), claims=HALF), (19, 10))
        for call in (sizes_where, holds_always, failing):
            with self.assertRaises(TypeError):
                call(HALF, Ratio(1, 5), 3)

    def test_one_row(self):
        one = Claims(Plan.fixed(1, 0), 3, (2, 0))
        self.assert_same(sizes_where(one, Ratio(1, 3)).ranges, (((3, None),), ((1, None),), ((2, None),)))
        self.assert_same(sizes_where(one, Ratio(1, 4)).ranges, (((3, 12),), ((1, 4),), ((2, 8),)))
        self.assert_same(sizes_where(one, Ratio(0)).ranges, (((3, 3),), ((1, 1),), ((2, 2),)))

    def test_errors(self):
        for call in (sizes_where, holds_always, failing):
            for wrong in NO_INTEGERS + (Plan.fixed(2, 0),):
                self.assert_error(NotClaims, {"value": wrong}, call, wrong, None, from_size=None)
            for wrong in NO_SHARES:
                self.assert_error(InvalidShare, {"value": wrong}, call, HALF, wrong, from_size=0)
                self.assert_error(InvalidShare, {"value": wrong}, call, from_size=0, share=wrong, claims=HALF)
            for wrong in NO_INTEGERS + (0, -1, 10 ** 30 + 1):
                self.assert_error(InvalidSize, {"value": wrong}, call, HALF, Ratio(1, 5), from_size=wrong)

    def test_claims_stay(self):
        claims = Claims(Plan.fixed(3, 0, 1), 3, (1, 0), (2, 0))
        worst(claims, 9), sizes_where(claims, Ratio(1, 5)), failing(claims, Ratio(1, 5)), holds_always(claims, Ratio(1, 5))
        self.assert_same(claims, Claims(Plan.fixed(3, 0, 1), 3, (1, 0), (2, 0)))
