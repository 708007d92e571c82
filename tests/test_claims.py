from fractions import Fraction

from drawclaims.claims import Claims
from drawclaims.counting import draws
from drawclaims.errors import (
    InvalidLines, InvalidMarked, InvalidName, InvalidNumber, InvalidSize, NotAPlan,
)
from drawclaims.lines import Line
from drawclaims.plans import Plan
from drawclaims.ratios import Ratio
from tests.claims_reference import bound, random_claims, ratio, some_claims, wrong_draws, wrong_part
from tests.helpers import OTHER, ProgramTest

NO_INTEGERS = (True, False, None, "1", "", b"1", (), (1,), [], [1], {}, Ratio(2), OTHER)
NO_NAMES = ("", "self", "A", "abcdefghi", "a1", 1, None, True, b"a", ("a",), Line(a=1), Ratio(1), OTHER)
GREATEST = 10 ** 150
PLAN = Plan.fixed(3, 0, 1)


class MakingTest(ProgramTest):
    def test_properties(self):
        claims = Claims(PLAN, 4, (1, 0), (2, -3))
        self.assert_same((claims.plan, claims.bottom, claims.lines), (PLAN, 4, ((1, 0), (2, -3))))
        named = Claims(Plan.fixed(2, 0), 3, (3, 1000))
        self.assert_same((named.bottom, named.lines), (3, ((3, 1000),)))
        self.assert_same(Claims(PLAN, 24, (0, -1000), (24, 1000)).lines, ((0, -1000), (24, 1000)))

    def test_repr_and_truth(self):
        self.assert_same(repr(Claims(PLAN, 4, (1, 0), (2, -3))), "Claims(3, 3)")
        self.assert_same(repr(Claims(Plan.fixed(20, 4), 1, (0, 0))), "Claims(20, 2)")
        self.assertTrue(Claims(Plan.fixed(1, 0), 1, (0, -1000)))

    def test_equality(self):
        one = Claims(PLAN, 4, (1, 0), (2, -3))
        for other, wanted in (
            (one, True), (Claims(Plan("-", "--", "---", "0122"), 4, (1, 0), (2, -3)), True),
            (Claims(PLAN, 5, (1, 0), (2, -3)), False), (Claims(PLAN, 4, (1, 0), (2, -2)), False),
            (Claims(PLAN, 4, (0, 0), (2, -3)), False), (Claims(PLAN.curtailed(), 4, (1, 0), (2, -3)), False),
        ):
            self.assert_same((one == other, other == one, one != other), (wanted, wanted, not wanted))
        for other in NO_INTEGERS + (PLAN, one.lines):
            self.assert_same((one == other, other == one, one != other), (False, False, True))

    def test_operators(self):
        one = Claims(PLAN, 4, (1, 0), (2, -3))
        for call in (lambda: one < one, lambda: one + one, lambda: one <= 1, lambda: one * 2, lambda: -one):
            with self.assertRaises(TypeError):
                call()


class BoundTest(ProgramTest):
    def test_bounds(self):
        for claims in some_claims() + random_claims(1, 40, 7, offsets=1000):
            longest, last = claims.plan.longest, claims.plan.classes - 1
            for size in (longest, longest + 1, 25, 100, 10 ** 9 + 7, 10 ** 30 - 1, GREATEST):
                for number in range(last):
                    slope, offset = claims.lines[number]
                    found = claims.bound(number, size)
                    self.assertIs(type(found), int)
                    self.assertTrue(found * claims.bottom <= slope * size + offset < (found + 1) * claims.bottom)
                self.assert_same(claims.bound(last, size), size)

    def test_beyond_the_table(self):
        claims = Claims(PLAN, 2, (0, -7), (2, 999))
        self.assert_same([claims.bound(0, 3), claims.bound(1, 3), claims.bound(2, 3)], [-4, 502, 3])
        self.assert_same(claims.bound(size=8, number=1), 507)

    def test_errors(self):
        claims = Claims(PLAN, 2, (0, -7), (2, 999))
        for wrong in NO_INTEGERS + (-1, 3):
            self.assert_error(InvalidNumber, {"number": wrong}, claims.bound, wrong, 0)
            self.assert_error(InvalidNumber, {"number": wrong}, claims.bound, size=None, number=wrong)
        for wrong in NO_INTEGERS + (2, 0, -5, GREATEST + 1):
            self.assert_error(InvalidSize, {"value": wrong}, claims.bound, 2, wrong)


class LineTest(ProgramTest):
    def test_lines(self):
        claims = Claims(Plan.fixed(4, 0, 1, 2), 6, (0, 9), (3, 0), (6, -4))
        self.assert_same(claims.line(0, "a"), Line(Ratio(3, 2)))
        self.assert_same(claims.line(1, "rows"), Line(rows=Ratio(1, 2)))
        self.assert_same(claims.line(number=2, name="abcdefgh"), Line(Ratio(-2, 3), abcdefgh=1))
        self.assert_same(claims.line(3, "a"), Line(a=1))

    def test_value_rounded_down(self):
        for claims in some_claims() + random_claims(2, 20, offsets=1000):
            for number in range(claims.plan.classes):
                line = claims.line(number, "a")
                for size in (claims.plan.longest, 77, 10 ** 30):
                    self.assert_same(line.at(a=size).floor, claims.bound(number, size))
                    self.assert_same((line.at(a=size) * claims.bottom).bottom, 1)

    def test_errors(self):
        claims = Claims(PLAN, 2, (0, -7), (2, 999))
        for wrong in NO_INTEGERS + (-1, 3):
            self.assert_error(InvalidNumber, {"number": wrong}, claims.line, wrong, None)
        for wrong in NO_NAMES:
            for number in range(3):
                self.assert_error(InvalidName, {"name": wrong}, claims.line, number, wrong)


class WrongTest(ProgramTest):
    def check(self, claims, size, marked, wrong):
        self.assert_same(claims.wrong(size, marked), wrong)
        self.assert_same(claims.wrong_share(size, marked), ratio(Fraction(wrong, draws(claims.plan, size))))

    def test_draw_by_draw(self):
        for claims in some_claims() + random_claims(3, 40):
            for size in range(claims.plan.longest, 7):
                for marked in range(size + 1):
                    self.check(claims, size, marked, wrong_draws(claims, size, marked))

    def test_beside_the_bounds(self):
        for claims in some_claims() + random_claims(4, 30, 8, offsets=1000):
            for size in (claims.plan.longest, 60, 10 ** 9, 10 ** 30, 10 ** 30 + 7):
                bounds = [bound(claims, number, size) for number in range(claims.plan.classes)]
                for marked in {each + step for each in bounds + [0, size // 2] for step in (-1, 0, 1, 2)}:
                    if 0 <= marked <= size:
                        part = wrong_part(claims, size, marked)
                        self.assert_same(claims.wrong_share(size, marked), ratio(part))
                        self.assert_same(claims.wrong(size, marked), int(part * draws(claims.plan, size)))

    def test_by_name(self):
        half = Claims(Plan.fixed(2, 0), 2, (1, 0))
        self.assert_same((half.wrong(marked=4, size=7), half.wrong_share(marked=4, size=7)), (6, Ratio(1, 7)))
        self.assert_same((half.wrong(7, 3), half.wrong_share(7, 3), half.wrong(7, 0)), (0, Ratio(0), 0))

    def test_errors(self):
        claims = Claims(PLAN, 2, (0, -7), (2, 999))
        for call in (claims.wrong, claims.wrong_share):
            for wrong in NO_INTEGERS + (2, -1, GREATEST + 1):
                self.assert_error(InvalidSize, {"value": wrong}, call, wrong, -1)
            for wrong in NO_INTEGERS + (-1, 8, GREATEST):
                self.assert_error(InvalidMarked, {"value": wrong}, call, 7, wrong)
                self.assert_error(InvalidMarked, {"value": wrong}, call, marked=wrong, size=7)

    def test_claims_stay(self):
        claims = Claims(PLAN, 2, (0, -7), (2, 999))
        claims.wrong(9, 4), claims.bound(1, 9), claims.line(1, "a"), claims.wrong_share(9, 3)
        self.assert_same(claims, Claims(PLAN, 2, (0, -7), (2, 999)))


class ErrorsTest(ProgramTest):
    def test_plans(self):
        for wrong in NO_INTEGERS + ("- 01", ("-", "01"), 1, Plan):
            self.assert_error(NotAPlan, {"value": wrong}, Claims, wrong, None, None)
            self.assert_error(NotAPlan, {"value": wrong}, Claims, bottom=0, plan=wrong)

    def test_bottoms(self):
        for wrong in NO_INTEGERS + (0, -1, 25, GREATEST):
            self.assert_error(InvalidNumber, {"number": wrong}, Claims, PLAN, wrong, None)
            self.assert_error(InvalidNumber, {"number": wrong}, Claims, bottom=wrong, plan=PLAN)

    def test_numbers_of_lines(self):
        line = (1, 0)
        for plan, many in ((Plan.fixed(1, 0), 1), (PLAN, 2), (Plan.fixed(7, 0, 1, 2, 3, 4, 5, 6), 7)):
            for other in range(10):
                if other != many:
                    self.assert_error(InvalidLines, {"index": None}, Claims, plan, 3, *[line] * other)
                    self.assert_error(InvalidLines, {"index": None}, Claims, plan, 3, *[None] * other)
            self.assert_same(Claims(plan, 3, *[line] * many).lines, (line,) * many)
        self.assert_error(InvalidLines, {"index": None}, Claims, plan=PLAN, bottom=1)

    def test_wrong_lines(self):
        for wrong in NO_INTEGERS + ((1, 0, 0), [1, 0], "10", {1: 0, 0: 1}):
            self.assert_error(InvalidLines, {"index": 0}, Claims, PLAN, 3, wrong, None)
            self.assert_error(InvalidLines, {"index": 1}, Claims, PLAN, 3, (0, 0), wrong)

    def test_wrong_items(self):
        for wrong in NO_INTEGERS + (-1, 4):
            self.assert_error(InvalidLines, {"index": 0}, Claims, PLAN, 3, (wrong, 0), (3, 0))
            self.assert_error(InvalidLines, {"index": 1}, Claims, PLAN, 3, (0, 0), (wrong, 1))
        for wrong in NO_INTEGERS + (-1001, 1001):
            self.assert_error(InvalidLines, {"index": 0}, Claims, PLAN, 3, (0, wrong), (3, 0))
            self.assert_error(InvalidLines, {"index": 1}, Claims, PLAN, 3, (0, 0), (1, wrong))

    def test_lines_that_do_not_rise(self):
        self.assert_error(InvalidLines, {"index": 1}, Claims, PLAN, 3, (2, 0), (1, 1000))
        self.assert_error(InvalidLines, {"index": 1}, Claims, PLAN, 3, (1, 1), (1, 0))
        self.assert_error(InvalidLines, {"index": 1}, Claims, PLAN, 3, (1, 4), (2, 0))
        self.assert_same(Claims(PLAN, 3, (1, 3), (2, 0)).lines, ((1, 3), (2, 0)))
        self.assert_same(Claims(PLAN, 3, (1, 3), (1, 3)).lines, ((1, 3), (1, 3)))
        four = Plan.fixed(4, 0, 1, 2)
        self.assert_error(InvalidLines, {"index": 2}, Claims, four, 3, (0, 0), (1, 0), (1, -1))
        self.assert_error(InvalidLines, {"index": 1}, Claims, four, 3, (1, 0), (0, 0), None)
        self.assert_error(InvalidLines, {"index": 2}, Claims, four, 3, (0, 0), (1, 0), None)
