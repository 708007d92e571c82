from drawclaims.errors import InvalidMarks, InvalidState, TooFew
from drawclaims.plans import Plan
from drawclaims.ratios import Ratio
from tests.helpers import OTHER, ProgramTest
from tests.reference import all_marks, run, some_plans, states_met

NO_MARKS = (True, False, None, 2, -1, 10 ** 50, "0", "1", b"0", (), (0,), [1], {}, Ratio(0), Ratio(1), OTHER)


class RunningTest(ProgramTest):
    def test_all_marks(self):
        for plan in some_plans():
            for marks in all_marks(plan.longest):
                self.assert_same(plan(marks), run(plan.rows, marks))

    def test_more_marks_than_needed(self):
        plan = Plan("-", "0-", ".12")
        self.assert_same(plan((0,)), (0, 1))
        self.assert_same(plan((0, 1, 1, 0, 1)), (0, 1))
        self.assert_same(plan(marks=(1, 1) + (0,) * 500), (2, 2))

    def test_too_few(self):
        for plan in some_plans():
            for marks in all_marks(plan.longest):
                looked = run(plan.rows, marks)[1]
                self.assert_same(plan(marks[:looked]), run(plan.rows, marks))
                self.assert_error(TooFew, {"looked": looked - 1}, plan, marks[:looked - 1])
        self.assert_error(TooFew, {"looked": 0}, Plan.fixed(20, 1), ())

    def test_no_tuples(self):
        for wrong in (None, True, 0, 1, "01", b"01", [0, 1], [], {}, Ratio(1), OTHER):
            self.assert_error(InvalidMarks, {"index": None}, Plan.fixed(2, 0), wrong)
            self.assert_error(InvalidMarks, {"index": None}, Plan.fixed(2, 0), marks=wrong)

    def test_wrong_marks(self):
        plan = Plan.fixed(2, 0)
        for wrong in NO_MARKS:
            self.assert_error(InvalidMarks, {"index": 0}, plan, (wrong,))
            self.assert_error(InvalidMarks, {"index": 1}, plan, (0, wrong, wrong))
            self.assert_error(InvalidMarks, {"index": 3}, plan, (0, 1, 1, wrong))

    def test_wrong_marks_come_ahead_of_too_few(self):
        self.assert_error(InvalidMarks, {"index": 0}, Plan.fixed(5, 0), (2,))
        self.assert_error(InvalidMarks, {"index": 1}, Plan.fixed(5, 0), (0, True))


class StatesTest(ProgramTest):
    def test_reached_states(self):
        for plan in some_plans():
            for (m, k), runs in states_met(plan.rows).items():
                looks = [looked for _, looked, _ in runs]
                self.assert_same(plan.leads(m, k), tuple(sorted({number for _, _, number in runs})))
                self.assert_same(plan.settles(m, k), (min(looks), max(looks)))
                self.assert_same(plan.ways(m, k), len({marks for marks, _, _ in runs}))

    def test_by_name(self):
        plan = Plan.fixed(3, 0, 1)
        self.assert_same((plan.leads(m=2, k=1), plan.settles(k=1, m=2), plan.ways(k=1, m=2)), ((1, 2), (1, 1), 2))

    def test_long_plans(self):
        plan = Plan.fixed(20, 9)
        self.assert_same((plan.ways(20, 10), plan.leads(20, 10), plan.settles(0, 0)), (184756, (1,), (20, 20)))
        self.assert_same((plan.curtailed().settles(0, 0), plan.curtailed().ways(10, 10)), ((10, 20), 1))

    def check_wrong(self, plan, m, k):
        for method in (plan.leads, plan.settles, plan.ways):
            self.assert_error(InvalidState, {"state": (m, k)}, method, m, k)
            self.assert_error(InvalidState, {"state": (m, k)}, method, k=k, m=m)

    def test_states_that_are_not_reached(self):
        for plan in some_plans()[:40]:
            met = states_met(plan.rows)
            for m in range(-2, plan.longest + 3):
                for k in range(-2, plan.longest + 3):
                    if (m, k) not in met:
                        self.check_wrong(plan, m, k)

    def test_other_values(self):
        plan = Plan.fixed(3, 0)
        for wrong in (True, False, None, "1", b"1", (), (1,), [1], {}, Ratio(1), OTHER, 10 ** 100, -10 ** 100):
            self.check_wrong(plan, wrong, 0)
            self.check_wrong(plan, 1, wrong)
            self.check_wrong(plan, wrong, wrong)


class OtherPlansTest(ProgramTest):
    def test_curtailed_gives_the_same_classes(self):
        for plan in some_plans():
            short = plan.curtailed()
            for marks in all_marks(plan.longest):
                number, looked = plan(marks)
                self.assertEqual(short(marks)[0], number)
                self.assertLessEqual(short(marks)[1], looked)

    def test_curtailed_looks_at_no_row_in_vain(self):
        for plan in some_plans():
            short = plan.curtailed()
            for (m, k), runs in states_met(short.rows).items():
                going = short.rows[m][k] == "-"
                self.assertEqual(len({number for _, _, number in runs}) > 1, going)
            self.assertEqual(short.longest, max(run(short.rows, marks)[1] for marks in all_marks(plan.longest)))

    def test_curtailed_rows(self):
        for text, wanted in (
            ("- -- --- 0122", "- -- --2 012."), ("- -- 011", "- -1 01."), ("- -- 001", "- 0- .01"), ("- 01", "- 01"),
            ("- -- 0-- .011", "- -- 0-1 .01."), ("- -- 0-1 .11.", "- -1 01."),
            ("- 0- .1- ..11", "- 01"), ("- -- --- ---- 00011", "- -- 0-- .0-1 ..01."),
        ):
            self.assert_same(str(Plan.read(text).curtailed()), wanted)

    def test_twice(self):
        for plan in some_plans():
            self.assertEqual(plan.curtailed().curtailed(), plan.curtailed())
            self.assertEqual(plan.flipped().flipped(), plan)
            self.assertEqual(plan.flipped().curtailed(), plan.curtailed().flipped())

    def test_flipped(self):
        for plan in some_plans():
            turned = plan.flipped()
            self.assert_same((turned.longest, turned.classes), (plan.longest, plan.classes))
            for marks in all_marks(plan.longest):
                number, looked = plan(tuple(1 - mark for mark in marks))
                self.assert_same(turned(marks), (plan.classes - 1 - number, looked))

    def test_plans_stay(self):
        plan = Plan.fixed(3, 0, 1)
        plan.curtailed(), plan.flipped(), plan((0, 0, 1)), plan.leads(1, 0), str(plan)
        self.assert_same((plan.rows, plan.longest, plan.classes), (("-", "--", "---", "0122"), 3, 3))
