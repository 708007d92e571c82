import random
from itertools import permutations

from drawclaims.claims import Claims
from drawclaims.counting import draws
from drawclaims.errors import InvalidMarked, InvalidNumber, InvalidSize, NotClaims, NotFlipped
from drawclaims.greatest import greatest_share
from drawclaims.plans import Plan
from drawclaims.ranges import TwoSided
from drawclaims.ratios import Ratio
from tests.claims_reference import bound, random_lines
from tests.helpers import OTHER, ProgramTest
from tests.reference import random_plans, run

NO_INTEGERS = (True, False, None, "1", "", b"1", (), (1,), [], [1], {}, Ratio(2), OTHER)
PLAN = Plan.fixed(2, 0)
HALF = Claims(PLAN, 2, (1, 0))
TURNED = Claims(PLAN.flipped(), 2, (1, 0))
TWO = TwoSided(HALF, TURNED)
GREATEST = 10 ** 150


def some_pairs(seed, many, longest=4):
    source = random.Random(seed)
    plans = random_plans(seed, 15, longest) + [PLAN, Plan.fixed(3, 0, 1, 2), Plan.looks((1, 0), (3, 1))]
    pairs = []
    for _ in range(many):
        plan = source.choice(plans)
        one, other = source.choice((1, 2, 3, 7)), source.choice((1, 2, 5, 24))
        above = Claims(plan, one, *random_lines(source, plan, one, 6))
        below = Claims(plan.flipped(), other, *random_lines(source, plan, other, 6))
        pairs.append(TwoSided(above, below))
    return pairs


def interval_of(two, number, size):
    turned = two.at_most.plan.classes - 1 - number
    return size - bound(two.at_least, turned, size), bound(two.at_most, number, size)


def wrong_draws(two, size, marked):
    """The number of the draws whose interval does not have the number of marked rows, draw by draw."""
    table = [1] * marked + [0] * (size - marked)
    wrong = 0
    for draw in permutations(range(size), two.at_most.plan.longest):
        low, high = interval_of(two, run(two.at_most.plan.rows, tuple(table[row] for row in draw))[0], size)
        wrong += marked < low or marked > high
    return wrong


class MakingTest(ProgramTest):
    def test_properties(self):
        self.assertIs(TWO.at_most, HALF)
        self.assertIs(TWO.at_least, TURNED)
        named = TwoSided(at_least=TURNED, at_most=HALF)
        self.assertIs(named.at_most, HALF)

    def test_equality(self):
        other = TwoSided(HALF, TURNED)
        self.assert_same((TWO == TWO, TWO != TWO, TWO == other, TWO != other), (True, False, False, True))
        for value in NO_INTEGERS + (HALF,):
            self.assert_same((TWO == value, value == TWO, TWO != value), (False, False, True))
        self.assertTrue(TWO)

    def test_errors(self):
        for wrong in NO_INTEGERS + (PLAN, TWO, Claims):
            self.assert_error(NotClaims, {"value": wrong}, TwoSided, wrong, None)
            self.assert_error(NotClaims, {"value": wrong}, TwoSided, at_least=None, at_most=wrong)
            self.assert_error(NotClaims, {"value": wrong}, TwoSided, HALF, wrong)

    def test_not_flipped(self):
        for plan in (PLAN, PLAN.flipped().curtailed(), Plan.fixed(3, 1), Plan.fixed(2, 0, 1), Plan.fixed(3, 2)):
            claims = Claims(plan, 2, *[(1, 0)] * (plan.classes - 1))
            self.assert_error(NotFlipped, {"found": plan.rows}, TwoSided, HALF, claims)
        three = Claims(Plan.fixed(2, 0, 1), 2, (1, 0), (1, 0))
        self.assertIs(TwoSided(three, three).at_least, three)


class IntervalTest(ProgramTest):
    def test_intervals(self):
        for two in some_pairs(1, 40):
            plan = two.at_most.plan
            for size in (plan.longest, plan.longest + 1, 30, 10 ** 9, GREATEST):
                for number in range(plan.classes):
                    self.assert_same(two.interval(number, size), interval_of(two, number, size))

    def test_edges(self):
        self.assert_same((TWO.interval(0, 10), TWO.interval(size=11, number=1)), ((0, 5), (6, 11)))
        low = TwoSided(Claims(PLAN, 1, (0, -5)), Claims(PLAN.flipped(), 1, (1, 9)))
        self.assert_same((low.interval(0, 4), low.interval(1, 4)), ((0, -5), (-9, 4)))

    def test_errors(self):
        for wrong in NO_INTEGERS + (-1, 2):
            self.assert_error(InvalidNumber, {"number": wrong}, TWO.interval, wrong, None)
        for wrong in NO_INTEGERS + (-1, 0, 1, GREATEST + 1):
            self.assert_error(InvalidSize, {"value": wrong}, TWO.interval, 1, wrong)


class WrongTest(ProgramTest):
    def test_draw_by_draw(self):
        for two in some_pairs(2, 40):
            plan = two.at_most.plan
            for size in range(plan.longest, 7):
                counts = [wrong_draws(two, size, marked) for marked in range(size + 1)]
                every = draws(plan, size)
                for marked, count in enumerate(counts):
                    self.assert_same(two.wrong_share(size, marked), Ratio(count, every))
                self.assert_same(two.worst(size), (Ratio(max(counts), every), counts.index(max(counts))))

    def test_worst(self):
        for two in some_pairs(3, 12, 7):
            for size in (two.at_most.plan.longest, 41, 200):
                shares = [two.wrong_share(size, marked) for marked in range(size + 1)]
                share, marked = two.worst(size)
                self.assert_same(shares[marked], share)
                self.assertTrue(all(other <= share for other in shares))
                self.assertTrue(all(other < share for other in shares[:marked]))

    def test_never_wrong(self):
        every = TwoSided(Claims(PLAN, 1, (1, 0)), Claims(PLAN.flipped(), 1, (1, 0)))
        self.assert_same((every.worst(2), every.worst(200), every.most_share()), ((Ratio(0), 0), (Ratio(0), 0), Ratio(0)))

    def test_both_sides(self):
        self.assert_same((TWO.wrong_share(5, 3), TWO.wrong_share(marked=2, size=5)), (Ratio(1, 10), Ratio(7, 10)))
        self.assert_same(TWO.wrong_share(GREATEST, 0), Ratio(0))

    def test_errors(self):
        for wrong in NO_INTEGERS + (-1, 0, 1, GREATEST + 1):
            self.assert_error(InvalidSize, {"value": wrong}, TWO.wrong_share, wrong, -1)
            self.assert_error(InvalidSize, {"value": wrong}, TWO.worst, wrong)
        for wrong in NO_INTEGERS + (-1, 6):
            self.assert_error(InvalidMarked, {"value": wrong}, TWO.wrong_share, 5, wrong)
        for wrong in (201, 10 ** 9, GREATEST):
            self.assert_error(InvalidSize, {"value": wrong}, TWO.worst, wrong)
        self.assert_same(TWO.worst(size=200), TWO.worst(200))


class MostShareTest(ProgramTest):
    def test_sums(self):
        for two in some_pairs(4, 40):
            for from_size in (1, 7, 10 ** 30):
                total = greatest_share(two.at_most, from_size=from_size)[0] + greatest_share(two.at_least, from_size=from_size)[0]
                self.assert_same(two.most_share(from_size=from_size), total if total < 1 else Ratio(1))

    def test_no_table_has_a_greater_share(self):
        for two in some_pairs(5, 30):
            for from_size in (1, 9):
                most = two.most_share(from_size=from_size)
                for size in range(max(from_size, two.at_most.plan.longest), 24):
                    self.assertTrue(two.worst(size)[0] <= most)

    def test_errors(self):
        for wrong in NO_INTEGERS + (0, -1, 10 ** 30 + 1):
            self.assert_error(InvalidSize, {"value": wrong}, TWO.most_share, from_size=wrong)
        with self.assertRaises(TypeError):
            TWO.most_share(3)

    def test_default_of_from_size(self):
        one = Plan.fixed(1, 0)
        two = TwoSided(Claims(one, 1, (1, -2)), Claims(one.flipped(), 1, (1, 0)))
        self.assert_same((two.most_share(), two.most_share(from_size=2)), (Ratio(1), Ratio(1, 2)))
