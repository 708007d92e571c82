from drawclaims.comparing import parting_marks, same_classes
from drawclaims.errors import NotAPlan
from drawclaims.plans import Plan
from drawclaims.ratios import Ratio
from tests.helpers import OTHER, ProgramTest
from tests.reference import all_marks, classes_fit, each_form, is_rising, run, some_plans

NO_PLANS = (None, True, False, 0, 1, "- 01", b"- 01", ("-", "01"), ["-", "01"], {}, Ratio(1), OTHER, Plan)


def first_parting(plan, other):
    """The first marks for which the classes differ, by trying all of them in the order of tuples."""
    for marks in all_marks(max(plan.longest, other.longest)):
        if run(plan.rows, marks)[0] != run(other.rows, marks)[0]:
            return marks
    return None


def small_plans():
    forms = each_form(1, "01") + each_form(2, "012") + each_form(3, "01")
    return [Plan(*rows) for rows in forms if classes_fit(rows) and is_rising(rows)]


class ComparingTest(ProgramTest):
    def check(self, plan, other):
        wanted = first_parting(plan, other)
        found = parting_marks(plan, other)
        self.assert_same(found, wanted)
        if found is not None:
            self.assertTrue(all(type(mark) is int for mark in found))
        self.assert_same(same_classes(plan, other), wanted is None)
        self.assertEqual(plan.curtailed() == other.curtailed(), wanted is None)

    def test_all_pairs_of_small_plans(self):
        plans = small_plans()
        self.assertGreaterEqual(len(plans), 50)
        for plan in plans:
            for other in plans:
                self.check(plan, other)

    def test_many_pairs(self):
        plans = some_plans()
        for plan in plans[::2]:
            for other in plans[::3]:
                self.check(plan, other)

    def test_plans_that_are_alike(self):
        for plan in some_plans():
            self.check(plan, plan)
            self.check(plan, plan.curtailed())
            self.check(plan.curtailed(), plan)
            self.check(plan.curtailed(), Plan(*plan.rows))

    def test_different_longest_looks(self):
        self.check(Plan.fixed(1, 0), Plan.fixed(9, 0))
        self.check(Plan.fixed(9, 8), Plan.fixed(1, 0))
        self.check(Plan.looks((1, 0), (3, 1)), Plan.fixed(3, 1))

    def test_longest(self):
        plan, other = Plan.fixed(20, 10), Plan.fixed(20, 9)
        self.assert_same(parting_marks(plan, other), (0,) * 10 + (1,) * 10)
        self.assert_same(parting_marks(plan, Plan.fixed(20, 10, 19)), (1,) * 20)
        self.assert_same(parting_marks(plan, Plan.fixed(1, 0)), (0,) * 9 + (1,) * 11)
        self.assert_same(same_classes(plan, plan.curtailed()), True)

    def test_by_name(self):
        plan, other = Plan.fixed(2, 0), Plan.fixed(3, 1)
        self.assert_same(parting_marks(other=other, plan=plan), (0, 1, 0))
        self.assert_same(same_classes(other=plan, plan=plan), True)

    def test_no_plans(self):
        plan = Plan.fixed(2, 0)
        for function in (same_classes, parting_marks):
            for wrong in NO_PLANS:
                self.assert_error(NotAPlan, {"value": wrong}, function, wrong, plan)
                self.assert_error(NotAPlan, {"value": wrong}, function, plan, wrong)
                self.assert_error(NotAPlan, {"value": wrong}, function, wrong, OTHER)
                self.assert_error(NotAPlan, {"value": wrong}, function, other="x", plan=wrong)
