from fractions import Fraction
from math import comb, factorial

from drawclaims.counting import class_counts, draws, falling, mean_looked, up_to
from drawclaims.errors import InvalidMarked, InvalidNumber, InvalidSize, NotAPlan
from drawclaims.plans import Plan
from drawclaims.ratios import Ratio
from tests.helpers import OTHER, ProgramTest
from tests.reference import counted_draws, some_plans

NO_INTEGERS = (True, False, None, "1", "", b"1", (), (1,), [], [1], {}, Ratio(2), OTHER)
NO_PLANS = (None, True, 1, "- 01", ("-", "01"), ["-", "01"], {}, Ratio(1), OTHER, Plan)
GREATEST = 10 ** 150


class FallingTest(ProgramTest):
    def test_products(self):
        for top in (-7, -1, 0, 1, 2, 5, 20, 21, 10 ** 300 - 1, -10 ** 299):
            product = 1
            for times in range(21):
                self.assert_same(falling(top, times), product)
                product *= top - times

    def test_edges(self):
        self.assert_same((falling(0, 0), falling(0, 1), falling(5, 5), falling(5, 6)), (1, 0, 120, 0))
        self.assert_same((falling(-1, 2), falling(20, 20), falling(times=2, top=9)), (2, factorial(20), 72))

    def test_wrong_arguments(self):
        for wrong in NO_INTEGERS:
            self.assert_error(InvalidNumber, {"number": wrong}, falling, wrong, 1)
            self.assert_error(InvalidNumber, {"number": wrong}, falling, wrong, 21)
            self.assert_error(InvalidNumber, {"number": wrong}, falling, times=None, top=wrong)
        for wrong in NO_INTEGERS + (-1, 21, 10 ** 30):
            self.assert_error(InvalidNumber, {"number": wrong}, falling, 5, wrong)


class SmallTablesTest(ProgramTest):
    def check(self, plan, size):
        for marked in range(size + 1):
            counts, looked = counted_draws(plan, size, marked)
            self.assert_same(class_counts(plan, size, marked), counts)
            self.assert_same(sum(counts), draws(plan, size))
            for number in range(plan.classes):
                self.assert_same(up_to(plan, number, size, marked), sum(counts[:number + 1]))
            mean = Fraction(looked, sum(counts))
            found = mean_looked(plan, size, marked)
            self.assertIs(type(found), Ratio)
            self.assert_same((found.top, found.bottom), (mean.numerator, mean.denominator))

    def test_draw_by_draw(self):
        plans = [plan for plan in some_plans() if plan.longest <= 4]
        self.assertGreater(len(plans), 20)
        for plan in plans:
            for size in range(plan.longest, 7):
                self.check(plan, size)

    def test_least_tables(self):
        for plan in some_plans():
            if 5 <= plan.longest <= 6:
                self.check(plan, plan.longest)

    def test_by_name(self):
        plan = Plan.fixed(2, 0)
        self.assert_same(draws(size=5, plan=plan), 20)
        self.assert_same(class_counts(marked=2, size=5, plan=plan), (6, 14))
        self.assert_same(up_to(marked=2, size=5, number=0, plan=plan), 6)
        self.assert_same(mean_looked(marked=2, size=5, plan=plan), Ratio(2))


class GreatTablesTest(ProgramTest):
    def test_fixed_plans(self):
        for looked, limits in ((1, (0,)), (3, (0, 1)), (8, (0, 1, 2, 3, 4, 5, 6)), (20, (0, 9, 19))):
            plan = Plan.fixed(looked, *limits)
            for size in (looked, looked + 7, 10 ** 9, 10 ** 30 + 1, GREATEST):
                self.assert_same(draws(plan, size), comb(size, looked) * factorial(looked))
                for marked in {0, 1, 5, size // 2, size - 1, size}:
                    if marked <= size:
                        self.check_fixed(plan, looked, limits, size, marked)

    def check_fixed(self, plan, looked, limits, size, marked):
        counts = [0] * plan.classes
        for k in range(looked + 1):
            ways = comb(marked, k) * comb(size - marked, looked - k) * factorial(looked)
            counts[len([limit for limit in limits if limit < k])] += ways
        self.assert_same(class_counts(plan, size, marked), tuple(counts))
        for number in range(plan.classes):
            self.assert_same(up_to(plan, number, size, marked), sum(counts[:number + 1]))
            self.assert_same(up_to(plan.curtailed(), number, size, marked) * draws(plan, size),
                             sum(counts[:number + 1]) * draws(plan.curtailed(), size))
        self.assert_same(mean_looked(plan, size, marked), Ratio(looked))

    def test_no_and_all_marked(self):
        for plan in some_plans()[::3] + [Plan.fixed(20, 3, 17), Plan.fixed(20, 3, 17).curtailed()]:
            for size in (plan.longest, 10 ** 20, GREATEST):
                none, every = (0,) * plan.longest, (1,) * plan.longest
                empty = (0,) * (plan.classes - 1)
                self.assert_same(class_counts(plan, size, 0), (draws(plan, size),) + empty)
                self.assert_same(class_counts(plan, size, size), empty + (draws(plan, size),))
                self.assert_same(mean_looked(plan, size, 0), Ratio(plan(none)[1]))
                self.assert_same(mean_looked(plan, size, size), Ratio(plan(every)[1]))

    def test_mean_looked(self):
        plan = Plan("-", "0-", ".01")
        for size in (2, 3, 10 ** 20, GREATEST):
            for marked in (0, 1, size // 2, size):
                self.assert_same(mean_looked(plan, size, marked), 1 + Ratio(marked, size))


class ErrorsTest(ProgramTest):
    plan = Plan.fixed(3, 0, 1)

    def test_plans(self):
        for wrong in NO_PLANS:
            self.assert_error(NotAPlan, {"value": wrong}, draws, wrong, None)
            self.assert_error(NotAPlan, {"value": wrong}, class_counts, wrong, None, None)
            self.assert_error(NotAPlan, {"value": wrong}, up_to, wrong, None, None, None)
            self.assert_error(NotAPlan, {"value": wrong}, mean_looked, marked=-1, size=-1, plan=wrong)

    def test_sizes(self):
        for wrong in NO_INTEGERS + (2, 0, -1, GREATEST + 1):
            self.assert_error(InvalidSize, {"value": wrong}, draws, self.plan, wrong)
            self.assert_error(InvalidSize, {"value": wrong}, class_counts, self.plan, wrong, None)
            self.assert_error(InvalidSize, {"value": wrong}, up_to, self.plan, 0, wrong, -1)
            self.assert_error(InvalidSize, {"value": wrong}, mean_looked, marked=-1, size=wrong, plan=self.plan)

    def test_the_size_depends_on_the_plan(self):
        for looked in (1, 2, 19, 20):
            plan = Plan.fixed(looked, 0)
            self.assert_same(draws(plan, looked), factorial(looked))
            self.assert_error(InvalidSize, {"value": looked - 1}, draws, plan, looked - 1)

    def test_marked(self):
        for wrong in NO_INTEGERS + (-1, 8, 10 ** 200):
            self.assert_error(InvalidMarked, {"value": wrong}, class_counts, self.plan, 7, wrong)
            self.assert_error(InvalidMarked, {"value": wrong}, up_to, self.plan, 0, 7, wrong)
            self.assert_error(InvalidMarked, {"value": wrong}, mean_looked, self.plan, 7, wrong)

    def test_numbers(self):
        for wrong in NO_INTEGERS + (-1, 3, 8, 10 ** 200):
            self.assert_error(InvalidNumber, {"number": wrong}, up_to, self.plan, wrong, 7, 0)
            self.assert_error(InvalidNumber, {"number": wrong}, up_to, self.plan, wrong, 0, -1)
        self.assert_same(up_to(self.plan, 2, 7, 0), 210)

    def test_arguments_stay(self):
        rows = self.plan.rows
        class_counts(self.plan, 9, 3), up_to(self.plan, 1, 9, 3), mean_looked(self.plan, 9, 3), draws(self.plan, 9)
        self.assert_same((self.plan.rows, self.plan.longest, self.plan.classes), (rows, 3, 3))
