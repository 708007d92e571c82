import random

from drawclaims.claims import Claims
from drawclaims.console import Console
from drawclaims.counting import class_counts
from drawclaims.errors import InvalidCommand, InvalidLines, InvalidMarked, InvalidNumber, InvalidSize, UnknownName
from drawclaims.greatest import greatest_share
from drawclaims.holding import sizes_where, worst
from drawclaims.least import least_bounds
from drawclaims.plans import Plan
from drawclaims.ratios import Ratio
from tests.claims_reference import random_claims, some_claims
from tests.helpers import OTHER, ProgramTest

NO_TEXTS = (True, False, None, 0, 1, b"greatest", (), ("greatest",), ["greatest"], {}, Ratio(1), OTHER, Console)
GREATEST = 10 ** 150
USE = "use 2 1 0; - -- 011"
LINES = ("count 5 2", "wrong 5 2", "worst 7", "where 1/5", "greatest", "bounds 1/5 10")


def use_line(claims):
    numbers = [claims.bottom] + [number for line in claims.lines for number in line]
    return "use " + " ".join(str(number) for number in numbers) + "; " + str(claims.plan)


def told(items):
    return " ".join(str(item) for item in items)


def told_sizes(sizes):
    texts = []
    for ranges in sizes.ranges:
        parts = [f"{first}-{'' if last is None else last}" for first, last in ranges]
        texts.append(" ".join(parts) or "none")
    return "; ".join(texts)


class ConsoleTest(ProgramTest):
    def check_all(self, console, claims, source):
        longest = claims.plan.longest
        for size in (longest, longest + 4, 10 ** 6, GREATEST):
            marked = source.randint(0, size)
            self.assert_same(console.say(f"count {size} {marked}"), told(class_counts(claims.plan, size, marked)))
            self.assert_same(console.say(f"wrong {size} {marked}"), str(claims.wrong_share(size, marked)))
            self.assert_same(console.say(f"worst {size}"), told(worst(claims, size)))
            for share in ("0", "1/5", "999999999/1000000000"):
                wanted = told(least_bounds(claims.plan, Ratio.read(share), size))
                self.assert_same(console.say(f"bounds {share} {size}"), wanted)
        for share in ("0", "1/20", "1/4", "1/3", "999999999/1000000000"):
            self.assert_same(console.say("where " + share), told_sizes(sizes_where(claims, Ratio.read(share))))
        share, size, marked = greatest_share(claims)
        self.assert_same(console.say("greatest"), f"{share} not reached" if size is None else f"{share} at {size} {marked}")

    def test_all_lines(self):
        source = random.Random(1)
        console = Console()
        for claims in random_claims(1, 40) + some_claims():
            self.assert_same(console.say(line=use_line(claims)), "ok")
            self.assertIs(type(console.claims), Claims)
            self.assertTrue(console.claims == claims)
            self.check_all(console, claims, source)

    def test_forms(self):
        console = Console()
        console.say("use 3 2 -1; - -- 011")
        self.assert_same(console.say("where 1/5"), told_sizes(sizes_where(console.claims, Ratio(1, 5))))
        console.say("use 1 0 -1; - 01")
        self.assert_same((console.say("where 1/2"), console.say("greatest")), ("none", "1 at 1 0"))
        console.say("use 2 2 0 2 1000; - -- 012")
        self.assert_same((console.say("where 0"), console.say("greatest"), console.say("worst 2")), ("2-; 3-", "0 at 2 0", "0 0"))

    def test_several_ranges(self):
        console = Console()
        console.say(use_line(Claims(Plan.fixed(6, 1), 2, (1, -3))))
        self.assert_same((console.say("where 11/100"), console.say("where 3/25")), ("6-8 374-; 7-", "6-10 18-; 7-"))
        self.assert_same((console.say("where 0"), console.say("where 1/10")), ("6-6; 7-7", "6-6; 7-31"))

    def test_two_consoles_in_turn(self):
        one, other = Console(), Console()
        self.assertIs(one.claims, None)
        one.say(USE)
        self.assertIs(other.claims, None)
        other.say("use 1 1 0; - 01")
        self.assert_same((one.say("count 5 2"), other.say("count 5 2")), ("6 14", "3 2"))
        one.say("use 4 1 0 3 0; - -- --- 0122")
        self.assert_same((one.claims.bottom, other.claims.bottom, one.say("bounds 1/5 9")), (4, 1, told(least_bounds(one.claims.plan, Ratio(1, 5), 9))))

    def test_truth_and_equality(self):
        console = Console()
        self.assertTrue(console)
        self.assert_same((console == console, console != console, console == Console()), (True, False, False))


class ConsoleErrorsTest(ProgramTest):
    def test_no_lines(self):
        console = Console()
        wrong_lines = [
            "", " ", "use", "use ", "use;", "use 2", "use 2; - -- 011", "use 2 1; - -- 011", "use 2 1 0", "use 2 1 0;", "use 2 1 0; ", "use 2 1 0;- -- 011",
            "use 2 1 0 ; - -- 011", "use 2 1 0;  - -- 011", "use  2 1 0; - -- 011", "use 2 1 0; - --  011", "use 2 1 0; - -- 011 ", " " + USE, "Use 2 1 0; - -- 011",
            "use 2 1 0 1; - -- 011", "use 2 1 0; - -- 010", "use 2 1 0; - -- 0", "use 2 1 0; - -- 111", "use 2 1 -0; - -- 011", "use 2 1 00; - -- 011",
            "use 2 1 +1; - -- 011", "use 02 1 0; - -- 011", "use a 1 0; - -- 011", "use 2 1 0.; - -- 011", "use 2 1/1 0; - -- 011", "use 2 1 0; - -- 011; ",
            "use 2 1 0; - -- 011\n", "use 2 1 0, - -- 011", "use 2 1 0; Plan", "use 2 1 0; -", "use 2 1 0; - -0 10.",
            "count", "count 5", "count 5 2 1", "count 5  2", "count 5 2 ", " count 5 2", "count 5,2", "count 5 -0", "count 05 2", "count 5 x", "count 5 2;", "count 5 2; ",
            "count; 5 2", "Count 5 2", "counts 5 2", "count 5/1 2", "count + 2", "count - 2", "count 5 2\n", "count\n5 2", "count 5 --2", "count 1_0 2",
            "wrong", "wrong 5", "wrong 5 2 2", "wrong 1/2 2", "worst", "worst 5 2", "worst 7 ", "worst seven", "worst  7", "worst 7; - -- 011",
            "where", "where ", "where 1", "where 2/4", "where 1/1", "where -1/2", "where 3/2", "where 0/1", "where 1/2 1", "where 1 / 2", "where 01/2", "where 1/02",
            "where 1/1000000001", "where .5", "where 0 ", "where x", "where 1/0", "where /2", "where 1/", "where -0",
            "greatest ", " greatest", "greatest 1", "Greatest", "greatest; ", "greatest\n", "greatest; - -- 011",
            "bounds", "bounds 1/5", "bounds 10", "bounds 10 1/5", "bounds 1 10", "bounds 1/5 10 10", "bounds  1/5 10", "bounds 1/5  10", "bounds 2/10 10",
            "claims", "help", ";", "; ", "- -- 011", "5 2", "say count 5 2",
        ]
        for _ in range(2):
            for wrong in wrong_lines:
                self.assert_error(InvalidCommand, {"command": wrong}, console.say, wrong)
            for wrong in NO_TEXTS:
                self.assert_error(InvalidCommand, {"command": wrong}, console.say, wrong)
                self.assert_error(InvalidCommand, {"command": wrong}, console.say, line=wrong)
            # The second time with claims, which stay.
            if console.claims is None:
                console.say(USE)
        self.assert_same((console.say("count 5 2"), str(console.claims.plan)), ("6 14", "- -- 011"))

    def test_without_claims(self):
        console = Console()
        for line in LINES + ("count 1 9", "worst -5", "bounds 1/5 0"):
            self.assert_error(UnknownName, {"name": "claims"}, console.say, line)
        self.assertIs(console.claims, None)
        for line in ("use 0 1 0; - 01", "use 1 2 0; - 01"):
            self.assertRaises((InvalidNumber, InvalidLines), console.say, line)
        self.assert_error(UnknownName, {"name": "claims"}, console.say, "greatest")

    def test_errors_of_use(self):
        console = Console()
        console.say(USE)
        before = console.claims
        for bottom in (0, -1, 25, 10 ** 299):
            self.assert_error(InvalidNumber, {"number": bottom}, console.say, f"use {bottom} 9 9; - 01")
        for line, index in (
            ("use 2 1 0; - -- 012", None), ("use 2 1 0 1 0; - -- 011", None), ("use 2 3 0; - 01", 0), ("use 2 -1 0; - 01", 0), ("use 2 1 1001; - 01", 0),
            ("use 2 1 -1001; - 01", 0), ("use 2 1 0 0 9; - -- 012", 1), ("use 2 1 0 1 -1; - -- 012", 1), ("use 2 1 0 3 0; - -- 012", 1),
        ):
            self.assert_error(InvalidLines, {"index": index}, console.say, line)
        self.assertIs(console.claims, before)
        console.say("use 24 24 -1000 24 1000; - -- 012")
        self.assert_same(console.claims.lines, ((24, -1000), (24, 1000)))

    def test_errors_of_functions(self):
        console = Console()
        console.say(USE)
        before = console.claims
        for size in (1, 0, -7, GREATEST + 1, 10 ** 299):
            for line in (f"count {size} -1", f"wrong {size} -1", f"worst {size}", f"bounds 0 {size}"):
                self.assert_error(InvalidSize, {"value": size}, console.say, line)
        for marked in (-1, 6, 10 ** 299):
            for word in ("count", "wrong"):
                self.assert_error(InvalidMarked, {"value": marked}, console.say, f"{word} 5 {marked}")
        self.assertIs(console.claims, before)
