import operator
import random
from math import lcm

from drawclaims.errors import InvalidLimits, InvalidModulus, InvalidNumber, TooFine
from drawclaims.ratios import Ratio
from drawclaims.sizes import Sizes
from tests.helpers import OTHER, ProgramTest

NO_INTEGERS = (True, False, None, "1", "", b"1", (), (1,), [], [1], {}, Ratio(2), OTHER)
FAR = 10 ** 60


class Told:
    """A set of sizes, whether an integer is in it, and the integers up to which it is irregular."""

    def __init__(self, sizes, has, last):
        self.sizes, self.has, self.last = sizes, has, last


def a_span(source, most):
    first, last = source.randint(0, most), source.choice((None, source.randint(0, most)))
    sizes = Sizes.span(first) if last is None else Sizes.span(first, last)
    return Told(sizes, lambda x: first <= x and (last is None or x <= last), max(first, last or 0))


def some_rests(source, most):
    modulus = source.choice([number for number in range(1, 13) if number <= most])
    rests = sorted(source.sample(range(modulus), source.randint(0, modulus)))
    return Told(Sizes.rests(modulus, *rests), lambda x: x % modulus in rests, 0)


def joined(source, left, right):
    last = max(left.last, right.last)
    kind = source.choice("&|-")
    if kind == "&":
        return Told(left.sizes & right.sizes, lambda x: left.has(x) and right.has(x), last)
    if kind == "|":
        return Told(left.sizes | right.sizes, lambda x: left.has(x) or right.has(x), last)
    return Told(left.sizes - right.sizes, lambda x: left.has(x) and not right.has(x), last)


def random_told(source, most):
    """Sets of up to two levels of operators."""
    def leaf():
        return source.choice((a_span, some_rests))(source, most)

    def branch():
        return joined(source, leaf(), leaf())

    made = source.choice((leaf, branch, lambda: joined(source, branch(), leaf()), lambda: joined(source, branch(), branch())))
    return made()


def ranges_by(told, modulus, most):
    """The ranges of a set, found member by member up to a place from which on it is regular."""
    found = []
    for rest in range(modulus):
        ranges = []
        for x in range(rest, most, modulus):
            if told.has(x):
                if ranges and ranges[-1][1] == x - modulus:
                    ranges[-1] = (ranges[-1][0], x)
                else:
                    ranges.append((x, x))
        if ranges and ranges[-1][1] + modulus >= most:
            ranges[-1] = (ranges[-1][0], None)
        found.append(tuple(ranges))
    return tuple(found)


def common(left, right):
    return Told(left.sizes & right.sizes, lambda x: left.has(x) and right.has(x), max(left.last, right.last))


class MakingTest(ProgramTest):
    def test_span(self):
        self.assert_same((Sizes.span(3, 9).modulus, Sizes.span(3, 9).ranges), (1, (((3, 9),),)))
        self.assert_same((Sizes.span(3).modulus, Sizes.span(3).ranges), (1, (((3, None),),)))
        self.assert_same((Sizes.span(4, 4).ranges, Sizes.span(4, 3).ranges, Sizes.span(4, 0).ranges), ((((4, 4),),), ((),), ((),)))
        self.assert_same((Sizes.span(0, 0).ranges, Sizes.span(0).ranges), ((((0, 0),),), (((0, None),),)))
        self.assert_same(Sizes.span(first=FAR, last=FAR + 1).ranges, (((FAR, FAR + 1),),))
        self.assert_same(Sizes.span(5, None).ranges, (((5, None),),))

    def test_span_errors(self):
        for wrong in NO_INTEGERS + (-1, -FAR):
            self.assert_error(InvalidNumber, {"number": wrong}, Sizes.span, wrong)
            self.assert_error(InvalidNumber, {"number": wrong}, Sizes.span, wrong, "last")
            self.assert_error(InvalidNumber, {"number": wrong}, Sizes.span, last=-1, first=wrong)
            if wrong is not None:
                self.assert_error(InvalidNumber, {"number": wrong}, Sizes.span, 5, wrong)

    def test_rests(self):
        self.assert_same((Sizes.rests(2, 1).modulus, Sizes.rests(2, 1).ranges), (2, ((), ((1, None),))))
        self.assert_same(Sizes.rests(3, 0, 2).ranges, (((0, None),), (), ((2, None),)))
        self.assert_same((Sizes.rests(1, 0).ranges, Sizes.rests(1).ranges), ((((0, None),),), ((),)))
        self.assert_same((Sizes.rests(modulus=5040).modulus, len(Sizes.rests(5040, 5039).ranges)), (5040, 5040))

    def test_rests_errors(self):
        for wrong in NO_INTEGERS + (0, -1, 5041, FAR):
            self.assert_error(InvalidModulus, {"value": wrong}, Sizes.rests, wrong)
            self.assert_error(InvalidModulus, {"value": wrong}, Sizes.rests, wrong, None, -1)
            self.assert_error(InvalidModulus, {"value": wrong}, Sizes.rests, modulus=wrong)
        for wrong in NO_INTEGERS + (-1, 6, FAR):
            self.assert_error(InvalidLimits, {"index": 0}, Sizes.rests, 6, wrong)
            self.assert_error(InvalidLimits, {"index": 2}, Sizes.rests, 6, 0, 4, wrong, None)
        self.assert_error(InvalidLimits, {"index": 1}, Sizes.rests, 6, 2, 2)
        self.assert_error(InvalidLimits, {"index": 2}, Sizes.rests, 6, 2, 5, 4)
        self.assert_error(InvalidLimits, {"index": 0}, Sizes.rests, 1, 1)


class MembersTest(ProgramTest):
    def check(self, told, most):
        sizes, modulus = told.sizes, told.sizes.modulus
        members = [x for x in range(most) if told.has(x)]
        self.assert_same([x for x in range(most) if x in sizes], members)
        self.assert_same(sizes.ranges, ranges_by(told, modulus, most - most % modulus))
        self.assert_same(bool(sizes), bool(members))
        whole = [x for x in range(most - 2 * modulus, most) if not told.has(x)]
        outside = [x for x in range(most) if not told.has(x)]
        self.assert_same(sizes.whole_from, None if whole else max(outside, default=-1) + 1)
        for first in (0, 1, most // 3, most // 2, most - 2 * modulus):
            later = [x for x in members if x >= first]
            self.assert_same(sizes.after(first), later[0] if later else None)
            for many in (0, 1, 2, 7, 1000):
                wanted = later[:many]
                if len(wanted) < many and not self.is_finite(sizes):
                    wanted = wanted[:3]
                found = list(sizes.members(first, many))
                self.assert_same(found[:len(wanted)], wanted)
                self.assertTrue(len(found) == many or self.is_finite(sizes) and found == wanted)

    def is_finite(self, sizes):
        return all(not ranges or ranges[-1][1] is not None for ranges in sizes.ranges)

    def test_member_by_member(self):
        source = random.Random(1)
        for _ in range(250):
            told = random_told(source, 40)
            self.check(told, 41 + 4 * told.sizes.modulus)

    def test_far_bounds(self):
        source = random.Random(2)
        for _ in range(120):
            told = random_told(source, FAR)
            edges = [edge for ranges in told.sizes.ranges for pair in ranges for edge in pair if edge is not None]
            near = {x + step for x in edges + [told.last, 0, 7] for step in range(-30, 31)}
            for x in near | {source.randint(0, 2 * FAR) for _ in range(30)}:
                self.assert_same(x in told.sizes, x >= 0 and told.has(x))
            for first in sorted(near)[::20]:
                if first >= 0:
                    found = told.sizes.after(first)
                    inside = [x for x in sorted(near) if x >= first and told.has(x)]
                    self.assertTrue(found is None and not inside or told.has(found) and found <= min(inside, default=found))

    def test_modulus(self):
        for one in (1, 2, 4, 6, 9, 24, 35):
            for two in (1, 3, 8, 10, 24):
                left, right = Sizes.rests(one, 0), Sizes.rests(two)
                for sign in (operator.and_, operator.or_, operator.sub):
                    self.assert_same(sign(left, right).modulus, lcm(one, two))
                    self.assert_same(sign(right, left).modulus, lcm(one, two))

    def test_few_ranges(self):
        both = Sizes.span(0, 3) | Sizes.span(4, 9)
        self.assert_same(both.ranges, (((0, 9),),))
        self.assert_same((both | Sizes.span(10)).ranges, (((0, None),),))
        self.assert_same((both | Sizes.span(11)).ranges, (((0, 9), (11, None)),))
        # The gap has no integer with the rest 0.
        gap = (Sizes.span(0, 4) | Sizes.span(6)) & Sizes.rests(2, 0, 1)
        self.assert_same(gap.ranges, (((0, None),), ((1, 3), (7, None))))
        twos = (Sizes.rests(2, 0) - Sizes.span(2, 2)) & Sizes.rests(4, 0, 2)
        self.assert_same(twos.ranges, (((0, None),), (), ((6, None),), ()))

    def test_whole_from(self):
        for sizes, wanted in (
            (Sizes.span(0), 0), (Sizes.span(5), 5), (Sizes.span(5, 9), None), (Sizes.rests(2, 0), None),
            (Sizes.rests(2, 0, 1), 0), (Sizes.span(0) - Sizes.span(0, 0), 1), (Sizes.rests(2, 1) | Sizes.span(7), 7),
            (Sizes.rests(2, 1) | Sizes.span(8), 7), (Sizes.span(0) - Sizes.span(FAR, FAR), FAR + 1), (Sizes.span(3, 2), None),
        ):
            self.assert_same(sizes.whole_from, wanted)

    def test_other_values_are_no_members(self):
        every = Sizes.span(0)
        for value in NO_INTEGERS + (-1, -FAR, Ratio(0), Ratio(1), every):
            self.assert_same(value in every, False)
            self.assert_same(value in Sizes.rests(2, 0, 1), False)
        self.assert_same((0 in every, 1 in every, FAR in every), (True, True, True))

    def test_truth(self):
        for sizes, wanted in (
            (Sizes.span(0), True), (Sizes.span(4, 4), True), (Sizes.span(4, 3), False), (Sizes.rests(7), False),
            (Sizes.rests(7, 6), True), (Sizes.span(0) - Sizes.span(0), False), (Sizes.span(0) - Sizes.span(1), True),
            (Sizes.rests(5040, 5039), True),
        ):
            self.assert_same(bool(sizes), wanted)
            self.assert_same(not sizes, not wanted)


class AfterTest(ProgramTest):
    def test_asked_again(self):
        sizes = Sizes.rests(3, 1) & Sizes.span(5, 11) | Sizes.span(FAR)
        for _ in range(2):
            self.assert_same(list(sizes.members(0, 4)), [7, 10, FAR, FAR + 1])
        one, other = sizes.members(7, 3), sizes.members(first=8, many=3)
        self.assert_same([next(one), next(other), next(one), next(other)], [7, 10, 10, FAR])
        self.assert_same((list(one), list(other)), ([FAR], [FAR + 1]))
        self.assert_same((sizes.after(first=11), sizes.after(7), sizes.after(8)), (FAR, 7, 10))

    def test_many(self):
        sizes = Sizes.rests(5040, 17, 5039)
        found = list(sizes.members(10 ** 50, 1000))
        self.assertEqual(len(found), 1000)
        self.assertEqual(found, sorted(found))
        self.assertTrue(all(member % 5040 in (17, 5039) for member in found))
        self.assertLess(found[-1] - found[0], 5040 * 500)
        self.assert_same(list(Sizes.span(3, 9).members(0, 1000)), list(range(3, 10)))
        self.assert_same(list(Sizes.span(0).members(7, 0)), [])
        self.assert_same(list(Sizes.span(4, 3).members(0, 5)), [])
        self.assert_same(Sizes.span(4, 3).after(0), None)

    def test_errors(self):
        sizes = Sizes.span(3)
        for wrong in NO_INTEGERS + (-1,):
            self.assert_error(InvalidNumber, {"number": wrong}, sizes.after, wrong)
            self.assert_error(InvalidNumber, {"number": wrong}, lambda: next(sizes.members(wrong, -1)))
            self.assert_error(InvalidNumber, {"number": wrong}, lambda: next(sizes.members(many=None, first=wrong)))
        for wrong in NO_INTEGERS + (-1, 1001):
            self.assert_error(InvalidNumber, {"number": wrong}, lambda: next(sizes.members(0, wrong)))


class ComparingTest(ProgramTest):
    def test_at_most(self):
        source = random.Random(3)
        for _ in range(200):
            left, right = random_told(source, 9), random_told(source, 9)
            if source.random() < 0.4:
                left = common(left, right)
            most = 20 + 2 * lcm(left.sizes.modulus, right.sizes.modulus)
            self.assert_same(left.sizes <= right.sizes, all(right.has(x) or not left.has(x) for x in range(most)))
            self.assert_same(left.sizes == right.sizes, all(right.has(x) == left.has(x) for x in range(most)))
            self.assert_same(left.sizes != right.sizes, any(right.has(x) != left.has(x) for x in range(most)))

    def test_unlike_moduli(self):
        one = Sizes.rests(2, 0) & Sizes.span(5)
        other = Sizes.rests(6, 0, 2, 4) - Sizes.span(0, 5)
        self.assert_same((one.modulus, other.modulus, one == other, one != other, one <= other, other <= one), (2, 6, True, False, True, True))
        self.assert_same((one == other | Sizes.span(4, 4), one <= other | Sizes.span(4, 4)), (False, True))
        self.assert_same((Sizes.rests(7) == Sizes.rests(5), Sizes.span(2, 1) == Sizes.rests(3), Sizes.rests(7, 0) == Sizes.rests(7)), (True, True, False))
        self.assert_same((Sizes.rests(24, *range(24)) == Sizes.span(0), Sizes.rests(24, *range(23)) == Sizes.span(0)), (True, False))

    def test_itself(self):
        for sizes in (Sizes.span(0), Sizes.rests(5040, 3), Sizes.rests(3)):
            self.assert_same((sizes == sizes, sizes != sizes, sizes <= sizes), (True, False, True))

    def test_other_kinds(self):
        for other in NO_INTEGERS + (0, 1, range(3), {1, 2}):
            for sizes in (Sizes.span(0), Sizes.rests(2), Sizes.span(1, 2)):
                self.assert_same((sizes == other, other == sizes, sizes != other), (False, False, True))
                for sign in (operator.and_, operator.or_, operator.sub, operator.le):
                    with self.assertRaises(TypeError):
                        sign(sizes, other)
                    with self.assertRaises(TypeError):
                        sign(other, sizes)

    def test_too_fine(self):
        for one, two in ((5039, 2), (5040, 11), (71, 73), (5040, 5039)):
            left, right = Sizes.rests(one, 0), Sizes.rests(two, 1)
            for sign in (operator.and_, operator.or_, operator.sub, operator.le):
                self.assert_error(TooFine, {"found": lcm(one, two)}, sign, left, right)
                self.assert_error(TooFine, {"found": lcm(one, two)}, sign, right, left)

    def test_just_not_too_fine(self):
        left, right = Sizes.rests(16, 0), Sizes.rests(315, 0, 1)
        self.assert_same([(left & right).modulus, (left | right).modulus, (left - right).modulus, left <= right], [5040] * 3 + [False])
        both = left & right
        self.assert_same([x for x in range(6000) if x in both], [x for x in range(6000) if x % 16 == 0 and x % 315 < 2])
        self.assert_same((Sizes.rests(5040, 7) & Sizes.span(8)).modulus, 5040)

    def test_operands_stay(self):
        left, right = Sizes.rests(2, 0), Sizes.span(3, 9)
        before = (left.ranges, right.ranges)
        left & right, left | right, left - right, left <= right, left == right, bool(left), 4 in left, left.after(3)
        list(left.members(0, 9))
        self.assert_same((left.ranges, right.ranges), before)
