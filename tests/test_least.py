import random
from fractions import Fraction
from itertools import combinations_with_replacement

from drawclaims.claims import Claims
from drawclaims.counting import class_counts, draws, up_to
from drawclaims.errors import InvalidLooks, InvalidNumber, InvalidShare, InvalidSize, NotAPlan
from drawclaims.holding import failing, holds_always
from drawclaims.least import least_bounds, least_look, least_offsets, least_slopes, next_look
from drawclaims.plans import Plan
from drawclaims.ratios import Ratio
from tests.claims_reference import fraction, ratio
from tests.helpers import OTHER, ProgramTest
from tests.reference import random_plans, some_plans

NO_INTEGERS = (True, False, None, "1", "", b"1", (), (1,), [], [1], {}, Ratio(2), OTHER)
NO_SHARES = (True, False, None, 0, 1, "1/2", (1, 2), [], OTHER, Ratio(1), Ratio(-1, 2), Ratio(3, 2), Ratio(1, 10 ** 9 + 1))
SHARES = (Ratio(0), Ratio(1, 1000), Ratio(1, 20), Ratio(1, 5), Ratio(1, 3), Ratio(1, 2), Ratio(9, 10))
FIFTH = Ratio(1, 5)
PLAN = Plan.fixed(3, 0, 1)
GREATEST = 10 ** 150
FAR = 10 ** 30


def part_up_to(plan, number, size, marked):
    return Fraction(up_to(plan, number, size, marked), draws(plan, size))


def wrong_with(plan, bounds, size, marked):
    """The wrong share with these bounds at this size."""
    counts = class_counts(plan, size, marked)
    wrong = [count for count, bound in zip(counts, bounds) if bound < marked]
    return Fraction(sum(wrong), draws(plan, size))


def class_suffices(plan, number, bottom, line, share, from_size, sizes):
    """Whether a class is wrong for at most the share at these sizes from the first one on."""
    for size in sizes:
        if size >= max(plan.longest, from_size):
            marked = max(0, (line[0] * size + line[1]) // bottom + 1)
            if marked <= size and part_up_to(plan, number, size, marked) > fraction(share):
                return False
    return True


class BoundsTest(ProgramTest):
    def check(self, plan, share, size):
        bounds = least_bounds(plan, share, size)
        self.assertEqual(len(bounds), plan.classes - 1)
        for number, bound in enumerate(bounds):
            self.assertIs(type(bound), int)
            self.assertTrue(0 <= bound <= size)
            self.assertTrue(part_up_to(plan, number, size, bound) > fraction(share))
            self.assertTrue(bound == size or part_up_to(plan, number, size, bound + 1) <= fraction(share))
        return bounds

    def test_small_tables(self):
        for plan in [plan for plan in some_plans() if plan.longest <= 5]:
            for size in range(plan.longest, plan.longest + 5):
                parts = {part_up_to(plan, number, size, marked) for number in range(plan.classes) for marked in range(size + 1)}
                shares = {ratio(part).__str__(): ratio(part) for part in parts if part < 1}
                for share in list(shares.values()) + list(SHARES):
                    bounds = self.check(plan, share, size)
                    wanted = tuple(
                        max(marked for marked in range(size + 1) if part_up_to(plan, number, size, marked) > fraction(share))
                        for number in range(plan.classes - 1)
                    )
                    self.assert_same(bounds, wanted)

    def test_great_tables(self):
        for plan in some_plans()[::12] + [Plan.fixed(20, 0, 5, 10, 15), Plan.fixed(20, 10).curtailed()]:
            for size in (plan.longest, 1000, 10 ** 9 + 7, FAR, GREATEST):
                for share in (Ratio(0), FIFTH, Ratio(10 ** 9 - 1, 10 ** 9)):
                    self.check(plan, share, size)

    def test_all_bounds(self):
        for plan in [plan for plan in random_plans(3, 25, 3) if plan.classes <= 4] + [Plan.fixed(3, 0, 1, 2)]:
            size = plan.longest + 2
            tables = {
                bounds: [wrong_with(plan, bounds + (size,), size, marked) for marked in range(size + 1)]
                for bounds in combinations_with_replacement(range(-1, size + 1), plan.classes - 1)
            }
            for share in SHARES:
                least = least_bounds(plan, share, size)
                for bounds, shares in tables.items():
                    enough = all(bound >= other for bound, other in zip(bounds, least))
                    self.assert_same(max(shares) <= fraction(share), enough)

    def test_shares_of_tables(self):
        # Of ten rows, five marked, two that are not marked come in 20 of 90 draws: 2/9.
        plan = Plan.fixed(2, 0)
        self.assert_same(least_bounds(plan, Ratio(2, 9), 10), (4,))
        self.assert_same(least_bounds(plan, Ratio(2, 9) - Ratio(1, 10 ** 6), 10), (5,))
        self.assert_same((least_bounds(plan, Ratio(0), 10), least_bounds(PLAN, Ratio(0), 10)), ((8,), (7, 8)))
        self.assert_same(least_bounds(size=10, share=FIFTH, plan=plan), (5,))

    def test_errors(self):
        for wrong in NO_INTEGERS + ("- 01", Plan):
            self.assert_error(NotAPlan, {"value": wrong}, least_bounds, wrong, None, None)
        for wrong in NO_SHARES:
            self.assert_error(InvalidShare, {"value": wrong}, least_bounds, PLAN, wrong, None)
        for wrong in NO_INTEGERS + (2, 0, -1, GREATEST + 1):
            self.assert_error(InvalidSize, {"value": wrong}, least_bounds, PLAN, FIFTH, wrong)


class SlopesTest(ProgramTest):
    def check(self, plan, share, bottom, offset, from_size):
        slopes = least_slopes(plan, share, bottom, offset=offset, from_size=from_size)
        self.assertEqual(len(slopes), plan.classes - 1)
        lines = [(slope, offset) for slope in slopes]
        self.assert_same(holds_always(Claims(plan, bottom, *lines), share, from_size=from_size), True)
        for number, slope in enumerate(slopes):
            self.assertTrue(0 <= slope <= bottom)
            if slope > 0:
                less = self.with_less(plan, bottom, lines, number, (slope - 1, offset))
                self.check_fails(plan, number, less, share, from_size)
        return slopes

    def with_less(self, plan, bottom, lines, number, line):
        """Claims in which this class has this line, and so have the classes before it, as far as they must."""
        fewer = [min(each, line) for each in lines[:number]] + [line] + lines[number + 1:]
        return Claims(plan, bottom, *fewer)

    def check_fails(self, plan, number, claims, share, from_size):
        """The claims do not hold, and at a size it is because of this class."""
        size, _ = failing(claims, share, from_size=from_size)
        self.assertTrue(size >= max(plan.longest, from_size))
        sizes = list(range(max(plan.longest, from_size), max(plan.longest, from_size) + 400)) + [10 ** 40 + k for k in range(30)]
        bottom, line = claims.bottom, claims.lines[number]
        self.assertFalse(class_suffices(plan, number, bottom, line, share, from_size, sizes + [size]))

    def test_slopes(self):
        source = random.Random(1)
        for plan in random_plans(4, 40, 5) + [Plan.fixed(2, 0), Plan.fixed(4, 0, 1, 2, 3)]:
            bottom = source.choice((1, 2, 3, 5, 8, 24))
            self.check(plan, source.choice(SHARES), bottom, source.choice((0, 0, 1, 7, 1000)), source.choice((1, 1, 4, 40, FAR)))

    def test_all_bottoms(self):
        for bottom in range(1, 25):
            for share in (Ratio(1, 20), Ratio(1, 4)):
                slopes = self.check(PLAN, share, bottom, 0, 1)
                for number, slope in enumerate(slopes):
                    for other in range(bottom + 1):
                        enough = class_suffices(PLAN, number, bottom, (other, 0), share, 1, list(range(3, 200)) + [10 ** 40])
                        self.assertTrue(enough == (other >= slope))

    def test_default_of_the_offset(self):
        plan = Plan.fixed(2, 1)
        self.assert_same((least_slopes(plan, Ratio(9, 10), 3), least_slopes(plan, Ratio(9, 10), 3, offset=1)), ((2,), (1,)))

    def test_long_plans(self):
        for plan in (Plan.fixed(20, 1, 8, 15), Plan.looks((8, 0), (20, 3))):
            for from_size in (1, FAR):
                self.check(plan, Ratio(1, 20), 24, 0, from_size)

    def test_edges(self):
        self.assert_same(least_slopes(Plan.fixed(2, 0), Ratio(0), 7), (7,))
        self.assert_same(least_slopes(Plan.fixed(2, 0), Ratio(1, 4), 2), (1,))
        self.assert_same(least_slopes(Plan.fixed(2, 0), Ratio(1, 4) - Ratio(1, 10 ** 6), 2), (2,))
        self.assert_same(least_slopes(from_size=3, offset=2, bottom=2, share=Ratio(1, 4), plan=Plan.fixed(2, 0)), (1,))

    def test_errors(self):
        for wrong in NO_INTEGERS + ("- 01", Plan):
            self.assert_error(NotAPlan, {"value": wrong}, least_slopes, wrong, None, None, offset=None, from_size=None)
        for wrong in NO_SHARES:
            self.assert_error(InvalidShare, {"value": wrong}, least_slopes, PLAN, wrong, None, offset=None, from_size=None)
        for wrong in NO_INTEGERS + (0, 25, -1):
            self.assert_error(InvalidNumber, {"number": wrong}, least_slopes, PLAN, FIFTH, wrong, offset=None, from_size=None)
        for wrong in NO_INTEGERS + (-1, 1001, -1000):
            self.assert_error(InvalidNumber, {"number": wrong}, least_slopes, PLAN, FIFTH, 2, from_size=None, offset=wrong)
        for wrong in NO_INTEGERS + (0, -1, FAR + 1):
            self.assert_error(InvalidSize, {"value": wrong}, least_slopes, PLAN, FIFTH, 2, from_size=wrong)
        with self.assertRaises(TypeError):
            least_slopes(PLAN, FIFTH, 2, 0)


class OffsetsTest(SlopesTest):
    def check(self, plan, share, bottom, slope, from_size):
        offsets = least_offsets(plan, share, bottom, slope, from_size=from_size)
        self.assertEqual(len(offsets), plan.classes - 1)
        lines = [(slope, 1000 if offset is None else offset) for offset in offsets]
        held = holds_always(Claims(plan, bottom, *lines), share, from_size=from_size)
        self.assert_same(held, None not in offsets)
        for number, offset in enumerate(offsets):
            if offset is None:
                self.check_fails(plan, number, Claims(plan, bottom, *lines), share, from_size)
            else:
                self.assertTrue(-1000 <= offset <= 1000)
                if offset > -1000:
                    less = self.with_less(plan, bottom, lines, number, (slope, offset - 1))
                    self.check_fails(plan, number, less, share, from_size)
        return offsets

    def test_slopes(self):
        source = random.Random(2)
        for plan in random_plans(5, 30, 5) + [Plan.fixed(2, 0), Plan.fixed(4, 0, 1, 2, 3)]:
            bottom = source.choice((1, 2, 3, 5, 8, 24))
            slope = source.randint(0, bottom)
            self.check(plan, source.choice(SHARES), bottom, slope, source.choice((1, 1, 4, 40, 700)))

    def test_all_bottoms(self):
        for bottom in range(1, 25):
            for slope in {0, bottom // 2, bottom * 3 // 4, bottom}:
                self.check(PLAN, Ratio(1, 3), bottom, slope, 1)

    def test_long_plans(self):
        self.check(Plan.fixed(20, 1, 8, 15), Ratio(1, 20), 24, 20, 1)

    def test_edges(self):
        plan = Plan.fixed(2, 0)
        self.assert_same((least_offsets(plan, FIFTH, 10, 6), least_offsets(plan, FIFTH, 10, 5)), ((-8,), (None,)))
        self.assert_same(least_offsets(plan, Ratio(0), 1, 1), (-2,))
        self.assert_same(least_offsets(plan, Ratio(9, 10), 24, 24, from_size=FAR), (-1000,))
        self.assert_same((least_offsets(Plan.fixed(4, 2), Ratio(9, 10), 3, 1), least_offsets(Plan.fixed(4, 3), Ratio(9, 10), 3, 2)), ((2,), (1,)))
        one = Plan.fixed(1, 0)
        self.assert_same((least_offsets(one, Ratio(1, 2), 1, 1), least_offsets(one, Ratio(1, 2), 1, 1, from_size=2)), ((-1,), (-2,)))
        self.assert_same(least_offsets(from_size=1, slope=0, bottom=3, share=FIFTH, plan=PLAN), (None, None))

    def test_errors(self):
        for wrong in NO_INTEGERS + ("- 01", Plan):
            self.assert_error(NotAPlan, {"value": wrong}, least_offsets, wrong, None, None, None, from_size=None)
        for wrong in NO_SHARES:
            self.assert_error(InvalidShare, {"value": wrong}, least_offsets, PLAN, wrong, None, None, from_size=None)
        for wrong in NO_INTEGERS + (0, 25, -1):
            self.assert_error(InvalidNumber, {"number": wrong}, least_offsets, PLAN, FIFTH, wrong, None, from_size=None)
        for wrong in NO_INTEGERS + (-1, 3, 24):
            self.assert_error(InvalidNumber, {"number": wrong}, least_offsets, PLAN, FIFTH, 2, wrong, from_size=None)
        for wrong in NO_INTEGERS + (0, -1, FAR + 1):
            self.assert_error(InvalidSize, {"value": wrong}, least_offsets, PLAN, FIFTH, 2, 1, from_size=wrong)
        with self.assertRaises(TypeError):
            least_offsets(PLAN, FIFTH, 2, 1, 1)


class LooksTest(ProgramTest):
    def first_that_holds(self, plan_of, first, bottom, line, share, from_size):
        for looked in range(first, 21):
            if holds_always(Claims(plan_of(looked), bottom, line), share, from_size=from_size):
                return looked
        return None

    def test_least_look(self):
        source = random.Random(6)
        for _ in range(60):
            bottom = source.choice((1, 2, 3, 10, 24))
            slope, offset = source.randint(0, bottom), source.choice((0, 0, -3, -60, 5, 300))
            allowed, share = source.choice((0, 0, 1, 3, 19)), source.choice(SHARES)
            from_size = source.choice((1, 1, 5, 100, FAR))
            found = least_look(share, bottom, slope, offset=offset, allowed=allowed, from_size=from_size)
            wanted = self.first_that_holds(
                lambda looked: Plan.fixed(looked, allowed), allowed + 1, bottom, (slope, offset), share, from_size
            )
            self.assert_same(found, wanted)

    def test_next_look(self):
        source = random.Random(7)
        for _ in range(60):
            bottom = source.choice((1, 2, 3, 10, 24))
            slope, offset = source.randint(0, bottom), source.choice((0, 0, -3, 40, 300))
            allowed, share = source.choice((0, 1, 3, 6)), source.choice(SHARES)
            rows = sorted(source.sample(range(1, 13), source.randint(1, 3)))
            looks = tuple((each, source.randint(0, min(each - 1, 2))) for each in rows)
            from_size = source.choice((1, 1, 5, FAR))
            found = next_look(share, bottom, slope, *looks, offset=offset, allowed=allowed, from_size=from_size)
            wanted = self.first_that_holds(
                lambda looked: Plan.looks(*looks, (looked, allowed)), max(rows[-1], allowed) + 1, bottom, (slope, offset), share, from_size
            )
            self.assert_same(found, wanted)

    def test_told_rows(self):
        # With n rows that are not marked, at most half of the rows are marked: wrong for less than 1 of 2 ** n draws.
        for rows in range(1, 21):
            self.assert_same(least_look(Ratio(1, 2 ** rows), 2, 1), rows)
        self.assert_same(least_look(Ratio(1, 10 ** 9), 2, 1), None)
        self.assert_same((least_look(FIFTH, 2, 0), least_look(FIFTH, 2, 2)), (None, 1))
        self.assert_same(least_look(from_size=1, allowed=0, offset=0, slope=1, bottom=2, share=FIFTH), 3)
        self.assert_same(least_look(FIFTH, 2, 2, allowed=19), 20)
        self.assert_same(least_look(FIFTH, 2, 2, offset=-1000, from_size=FAR), 1)

    def test_defaults(self):
        self.assert_same([least_look(Ratio(3, 4), 2, 1, allowed=1, offset=offset) for offset in (0, -1)], [2, 3])
        self.assert_same((least_look(Ratio(3, 4), 2, 1, allowed=1), least_look(Ratio(9, 10), 2, 1, allowed=2)), (2, 4))
        self.assert_same(least_look(Ratio(9, 10), 2, 1, allowed=2, offset=1), 3)
        self.assert_same((least_look(Ratio(0), 1, 1), least_look(Ratio(0), 1, 1, allowed=1)), (1, 2))
        self.assert_same((least_look(Ratio(1, 2), 1, 1, offset=-2), least_look(Ratio(1, 2), 1, 1, offset=-2, from_size=2)), (2, 1))
        nine, two, three = Ratio(9, 10), (2, 1), ((1, 0), (3, 1))
        self.assert_same((next_look(nine, 3, 1, two), next_look(nine, 3, 1, two, offset=-1)), (3, 19))
        self.assert_same((next_look(nine, 4, 1, *three), next_look(nine, 4, 1, *three, offset=1)), (8, 4))
        self.assert_same((next_look(Ratio(1, 4), 2, 1, (2, 0)), next_look(Ratio(1, 4), 2, 1, (2, 0), allowed=1)), (3, None))

    def test_told_looks(self):
        self.assert_same(next_look(Ratio(1, 3), 2, 1, (2, 0), allowed=1), 5)
        self.assert_same(next_look(Ratio(1, 4), 2, 1, (2, 0), allowed=1), None)
        self.assert_same(next_look(Ratio(1, 3), 2, 1, (20, 0)), None)
        self.assert_same((next_look(FIFTH, 2, 2, (19, 0)), next_look(FIFTH, 2, 2, (3, 0), allowed=9)), (20, 10))
        self.assert_same(next_look(FIFTH, 2, 2, (1, 0), allowed=19), 20)

    def test_errors_of_both(self):
        for wrong in NO_SHARES:
            self.assert_error(InvalidShare, {"value": wrong}, least_look, wrong, None, None, offset=None)
            self.assert_error(InvalidShare, {"value": wrong}, next_look, wrong, None, None, None, offset=None)
        for wrong in NO_INTEGERS + (0, 25):
            self.assert_error(InvalidNumber, {"number": wrong}, least_look, FIFTH, wrong, None, allowed=None)
            self.assert_error(InvalidNumber, {"number": wrong}, next_look, FIFTH, wrong, None, None, allowed=None)
        for wrong in NO_INTEGERS + (-1, 4):
            self.assert_error(InvalidNumber, {"number": wrong}, least_look, FIFTH, 3, wrong, allowed=None)
            self.assert_error(InvalidNumber, {"number": wrong}, next_look, FIFTH, 3, wrong, None, from_size=None)
        for call, looks in ((least_look, ()), (next_look, ((2, 0),))):
            for wrong in NO_INTEGERS + (-1001, 1001):
                self.assert_error(InvalidNumber, {"number": wrong}, call, FIFTH, 3, 2, *looks, from_size=None, allowed=None, offset=wrong)
            for wrong in NO_INTEGERS + (-1, 20):
                self.assert_error(InvalidNumber, {"number": wrong}, call, FIFTH, 3, 2, *looks, from_size=None, allowed=wrong)
            for wrong in NO_INTEGERS + (0, FAR + 1):
                self.assert_error(InvalidSize, {"value": wrong}, call, FIFTH, 3, 2, *looks, from_size=wrong)

    def test_errors_of_looks(self):
        self.assert_error(InvalidLooks, {"index": None}, next_look, FIFTH, 3, 2, offset=None, allowed=None, from_size=None)
        self.assert_error(InvalidLooks, {"index": None}, next_look, slope=2, bottom=3, share=FIFTH)
        for wrong in NO_INTEGERS + ((0, 0), (21, 0), (3, 3), (3, -1), (3, True), (True, 0), (3,), (3, 0, 0), [3, 0]):
            self.assert_error(InvalidLooks, {"index": 0}, next_look, FIFTH, 3, 2, wrong, None, offset=None)
            self.assert_error(InvalidLooks, {"index": 1}, next_look, FIFTH, 3, 2, (1, 0), wrong, None, allowed=None)
        self.assert_error(InvalidLooks, {"index": 2}, next_look, FIFTH, 3, 2, (1, 0), (4, 0), (4, 1), from_size=None)
