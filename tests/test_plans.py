import operator
import random

from drawclaims.errors import InvalidLimits, InvalidLooks, InvalidNumber, InvalidRows, InvalidText, NotRising
from drawclaims.plans import Plan
from drawclaims.ratios import Ratio
from tests.helpers import BASES, OTHER, ProgramTest
from tests.reference import all_marks, classes_fit, each_form, is_rising, random_rows, run, sinks_at, some_plans

NO_TEXTS = (None, True, False, 0, 1, b"-", ("-",), ["-"], {}, Ratio(1), OTHER)
NO_INTEGERS = (True, False, None, "1", b"1", (), (1,), [1], {}, Ratio(1), OTHER)


class RowsTest(ProgramTest):
    def check(self, plan, rows, longest, classes):
        self.assertIs(type(plan), Plan)
        self.assert_same((plan.rows, plan.longest, plan.classes), (rows, longest, classes))

    def test_least_plan(self):
        self.check(Plan("-", "01"), ("-", "01"), 1, 2)

    def test_longest_look(self):
        rows = tuple("-" * (m + 1) for m in range(20)) + ("0" + "1" * 20,)
        self.check(Plan(*rows), rows, 20, 2)

    def test_eight_classes(self):
        rows = tuple("-" * (m + 1) for m in range(7)) + ("01234567",)
        self.check(Plan(*rows), rows, 7, 8)
        rows = ("-", "--", "---", "----", "-----", "------", "01234--", ".....567")
        self.check(Plan(*rows), rows, 7, 8)

    def test_number_of_rows(self):
        rows = tuple("-" * (m + 1) for m in range(21)) + ("0" + "1" * 21,)
        for wrong in ((), ("-",), ("0",), (OTHER,), rows, rows * 3, (None,) * 22):
            self.assert_error(InvalidRows, {"index": None}, Plan, *wrong)

    def test_what_is_no_row(self):
        for wrong in NO_TEXTS:
            self.assert_error(InvalidRows, {"index": 0}, Plan, wrong, "01")
            self.assert_error(InvalidRows, {"index": 1}, Plan, "-", wrong)
            self.assert_error(InvalidRows, {"index": 1}, Plan, "-", wrong, "...")
            self.assert_error(InvalidRows, {"index": 2}, Plan, "-", "--", wrong)

    def test_rows_that_do_not_fit(self):
        for index, rows in (
            (0, ("0", "..")), (0, (".", "..")), (0, ("", "01")), (0, ("--", "01")), (0, ("- ", "01")), (0, ("1", "x")),
            (1, ("-", "")), (1, ("-", "0")), (1, ("-", "011")), (1, ("-", "0.")), (1, ("-", ".1")), (1, ("-", "..")),
            (1, ("-", "08")), (1, ("-", "09", "...")), (1, ("-", "0x")), (1, ("-", "0 ")), (1, ("-", "0\n")),
            (1, ("-", "-", "012")), (2, ("-", "0-", "011")), (2, ("-", "0-", "...")), (2, ("-", "0-", ".1.")),
            (2, ("-", "-1", "01-", "..01")), (2, ("-", "--", "0.1")), (1, ("-", "0?", "x")),
        ):
            self.assert_error(InvalidRows, {"index": index}, Plan, *rows)

    def test_last_rows(self):
        for index, rows in (
            (1, ("-", "--")), (1, ("-", "0-")), (1, ("-", "-1")), (2, ("-", "--", "0-1")), (2, ("-", "01", "...")),
            (3, ("-", "01", "...", "....")), (3, ("-", "0-", ".01", "....")), (2, ("-", "0-", ".-1")),
            (2, ("-", "01", "..0")), (2, ("-", "01", "..", "....")),
        ):
            self.assert_error(InvalidRows, {"index": index}, Plan, *rows)

    def test_classes(self):
        for rows in (
            ("-", "00"), ("-", "11"), ("-", "12"), ("-", "02"), ("-", "--", "013"), ("-", "77"), ("-", "0-", ".00"),
            ("-", "20"), ("-", "--", "113"), ("-", "--", "202"),
        ):
            self.assert_error(InvalidRows, {"index": None}, Plan, *rows)


class RisingTest(ProgramTest):
    def check(self, rows):
        """A form that fits is taken exactly if it is rising, otherwise the error shows why it is not."""
        try:
            plan = Plan(*rows)
        except NotRising as error:
            self.assertFalse(is_rising(rows), rows)
            self.assertEqual(list(vars(error)), ["marks", "place"])
            self.check_shown(rows, error.marks, error.place)
        else:
            self.assertTrue(is_rising(rows), rows)
            self.assert_same((plan.rows, plan.longest), (rows, len(rows) - 1))

    def check_shown(self, rows, marks, place):
        self.assertIn(marks, all_marks(len(rows) - 1))
        self.assertTrue(all(type(mark) is int for mark in marks) and type(place) is int)
        self.assertIn(place, range(len(marks)))
        self.assertTrue(sinks_at(rows, marks, place), (rows, marks, place))

    def test_all_small_forms(self):
        forms = each_form(1, "01") + each_form(2, "012") + each_form(3, "01")
        taken = [rows for rows in forms if classes_fit(rows)]
        self.assertGreater(len(taken), 200)
        for rows in forms:
            if rows in taken:
                self.check(rows)
            else:
                self.assert_error(InvalidRows, {"index": None}, Plan, *rows)

    def test_many_forms(self):
        source = random.Random(5)
        both = [0, 0]
        for _ in range(1500):
            rows = random_rows(source, source.randint(2, 7), source.randint(2, 5))
            if classes_fit(rows):
                self.check(rows)
                both[is_rising(rows)] += 1
        self.assertGreater(min(both), 100)

    def test_not_rising_comes_last(self):
        self.assert_error(InvalidRows, {"index": 2}, Plan, "-", "10", "x")
        self.assert_error(InvalidRows, {"index": None}, Plan, "-", "20")
        self.assert_error(NotRising, {"marks": (0,), "place": 0}, Plan, "-", "10")
        self.assert_error(NotRising, {"marks": (1, 0), "place": 1}, Plan, "-", "0-", ".10")

    def test_long_plans_that_sink_late(self):
        rows = tuple("-" * (m + 1) for m in range(20)) + ("0" * 10 + "1" * 5 + "0" + "1" * 5,)
        with self.assertRaises(NotRising) as caught:
            Plan(*rows)
        error = caught.exception
        self.assertEqual((len(error.marks), sum(error.marks)), (20, 14))
        self.assertTrue(sinks_at(rows, error.marks, error.place))


class ReadTest(ProgramTest):
    def test_read_what_str_gives(self):
        for plan in some_plans():
            self.assert_same(str(plan), " ".join(plan.rows))
            self.assert_same(Plan.read(str(plan)).rows, plan.rows)
            self.assert_same(Plan.read(text=str(plan)), plan)

    def test_other_texts(self):
        for text in (
            "", " ", "-", "- ", " - 01", "- 01 ", "-  01", "-\n01", "- 01\n", "-01", "01", "- 00", "- 12", "- 10", "- 0",
            "- 012", "- 0- .10", "- 0- .1", "- -- 0-1", "- 01 ...", "0 ..", ". ..", "- --", "- 0x", "Plan(1, 2)",
            " ".join("-" * (m + 1) for m in range(21)) + " 0" + "1" * 21, "- " * 5000, "x" * 100000,
        ):
            self.assert_error(InvalidText, {"text": text}, Plan.read, text)
            self.assert_error(InvalidText, {"text": text}, Plan.read, text=text)

    def test_no_texts(self):
        for value in NO_TEXTS + (("-", "01"), ["-", "01"], b"- 01", Plan("-", "01")):
            self.assert_error(InvalidText, {"text": value}, Plan.read, value)


class FixedTest(ProgramTest):
    def test_classes(self):
        for looked, limits in ((1, (0,)), (3, (0, 1)), (4, (2,)), (7, (0, 1, 2, 3, 4, 5, 6)), (9, (1, 4, 8)), (6, (5,))):
            plan = Plan.fixed(looked, *limits)
            self.assert_same((plan.longest, plan.classes), (looked, len(limits) + 1))
            for marks in all_marks(looked):
                wanted = len([limit for limit in limits if limit < sum(marks)])
                self.assert_same(plan(marks), (wanted, looked))

    def test_longest(self):
        plan = Plan.fixed(20, 0, 19)
        self.assert_same(plan.rows[20], "0" + "1" * 19 + "2")
        self.assert_same(plan.rows[19], "-" * 20)

    def test_wrong_number(self):
        for wrong in NO_INTEGERS + (0, -1, 21, 10 ** 100):
            self.assert_error(InvalidNumber, {"number": wrong}, Plan.fixed, wrong, 0)
            self.assert_error(InvalidNumber, {"number": wrong}, Plan.fixed, looked=wrong)

    def test_number_of_limits(self):
        self.assert_error(InvalidLimits, {"index": None}, Plan.fixed, 3)
        self.assert_error(InvalidLimits, {"index": None}, Plan.fixed, looked=3)
        self.assert_error(InvalidLimits, {"index": None}, Plan.fixed, 9, 0, 1, 2, 3, 4, 5, 6, 7)
        self.assert_error(InvalidLimits, {"index": None}, Plan.fixed, 9, *[OTHER] * 8)

    def test_wrong_limits(self):
        for wrong in NO_INTEGERS + (-1, 5, 10 ** 30):
            self.assert_error(InvalidLimits, {"index": 0}, Plan.fixed, 5, wrong)
            self.assert_error(InvalidLimits, {"index": 1}, Plan.fixed, 5, 0, wrong, None)
        for index, limits in ((1, (0, 0)), (1, (3, 2)), (2, (0, 2, 1)), (1, (4, 5)), (0, (-1, -2)), (2, (1, 2, 2, 1))):
            self.assert_error(InvalidLimits, {"index": index}, Plan.fixed, 5, *limits)


class LooksTest(ProgramTest):
    def test_classes(self):
        for pairs in (
            ((1, 0),), ((5, 4),), ((5, 0),), ((2, 0), (4, 1)), ((2, 1), (4, 0)), ((1, 0), (2, 0), (3, 0)),
            ((3, 1), (5, 1), (9, 4)), ((1, 0), (8, 7)),
        ):
            plan = Plan.looks(*pairs)
            last = pairs[-1][0]
            self.assert_same((plan.longest, plan.classes), (last, 2))
            for marks in all_marks(last):
                stops = [looked for looked, allowed in pairs if sum(marks[:looked]) <= allowed]
                self.assert_same(plan(marks), (0, stops[0]) if stops else (1, last))

    def test_no_pairs(self):
        self.assert_error(InvalidLooks, {"index": None}, Plan.looks)

    def test_wrong_pairs(self):
        for wrong in NO_INTEGERS + ((3,), (3, 1, 1), [3, 1], (True, 0), (3, True), (3, False), (3, None), ("3", 1)):
            self.assert_error(InvalidLooks, {"index": 0}, Plan.looks, wrong)
            self.assert_error(InvalidLooks, {"index": 1}, Plan.looks, (2, 1), wrong, None)
        for index, pairs in (
            (0, ((0, 0),)), (0, ((21, 0),)), (0, ((3, 3),)), (0, ((3, -1),)), (0, ((-1, 0),)), (0, ((1, 1),)),
            (1, ((2, 0), (2, 0))), (1, ((2, 0), (1, 0))), (2, ((1, 0), (3, 0), (3, 1))), (1, ((1, 0), (21, 0))),
            (20, tuple((looked, 0) for looked in range(1, 22))),
        ):
            self.assert_error(InvalidLooks, {"index": index}, Plan.looks, *pairs)

    def test_twenty_looks(self):
        plan = Plan.looks(*[(looked, looked - 1) for looked in range(1, 21)])
        self.assert_same((plan.longest, plan((1,) * 20), plan((1, 1, 0))), (20, (1, 20), (0, 3)))


class ObjectTest(ProgramTest):
    def test_equality(self):
        plans = some_plans()
        for plan in plans:
            for other in plans:
                self.assert_same(plan == other, plan.rows == other.rows)
                self.assert_same(plan != other, plan.rows != other.rows)
        for other in NO_TEXTS + (("-", "01"), "- 01"):
            self.assert_same((Plan("-", "01") == other, other == Plan("-", "01")), (False, False))
            self.assert_same(Plan("-", "01") != other, True)

    def test_texts(self):
        self.assert_same((str(Plan("-", "01")), repr(Plan("-", "01"))), ("- 01", "Plan(1, 2)"))
        self.assert_same(repr(Plan.fixed(20, 1, 4, 7)), "Plan(20, 4)")

    def test_truth(self):
        self.assertTrue(Plan("-", "01"))

    def test_operators(self):
        signs = (operator.add, operator.sub, operator.mul, operator.lt, operator.le, operator.and_, operator.or_)
        for sign in signs:
            for other in (1, "- 01", Plan("-", "01")):
                with self.assertRaises(TypeError):
                    sign(Plan("-", "01"), other)

    def test_only_errors_of_the_program(self):
        for rows in (("-", 5), ("-", "0" * 5), (5, 5), ([], {})):
            with self.assertRaises(BASES):
                Plan(*rows)
        self.assertEqual(run(("-", "01"), (1,)), (1, 1))
