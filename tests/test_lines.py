import operator
from itertools import product

from drawclaims.errors import InvalidName, InvalidNumber, InvalidRatio, UnknownName
from drawclaims.lines import Line
from drawclaims.ratios import Ratio
from tests.helpers import OTHER, ProgramTest

NO_NUMBERS = (True, False, None, "1", "", b"1", (), (1,), [], [1], {}, OTHER)
NO_NAMES = (
    "", "self", "A", "aB", "abcdefghi", "a1", "a_", " a", "a ", "a\n", "the_offset", "-", 1, 0, True, False, None,
    b"a", ("a",), ["a"], {}, Ratio(1), OTHER, Line(),
)
BAD_WORDS = tuple(name for name in NO_NAMES if isinstance(name, str) and name not in ("self", "the_offset"))
LINES = (
    Line(), Line(3), Line(Ratio(-1, 2)), Line(a=1), Line(4, b=1), Line(a=Ratio(1, 2)), Line(-2, a=1, b=Ratio(-3, 4)),
    Line(Ratio(1, 3), a=-1, zz=2), Line(0, a=0), Line(1, a=1), Line(1, a=1, b=1), Line(0, a=-1),
)
TERMS = LINES + (0, 1, -3, Ratio(0), Ratio(1, 2), Ratio(-7, 3))
SIZES = ({"a": 0, "b": 0, "zz": 0}, {"a": 7, "b": 1, "zz": 10 ** 150}, {"a": 1, "b": 10 ** 9, "zz": 3})


def value(term, sizes):
    return term.at(**sizes) if isinstance(term, Line) else Ratio(0) + term


def pairs_with_a_line():
    for left, right in product(TERMS, TERMS):
        if isinstance(left, Line) or isinstance(right, Line):
            yield left, right


def parts(term):
    """The offset and the slopes of a term."""
    if not isinstance(term, Line):
        return Ratio(0) + term, {}
    return term.offset, {name: term.slope_of(name) for name in term.names}


def at_most(left, right):
    (low, slopes), (high, others) = parts(left), parts(right)
    return low <= high and all(slopes.get(name, 0) <= others.get(name, 0) for name in {**slopes, **others})


def below(left, right):
    return at_most(left, right) and parts(left)[0] < parts(right)[0]


class MakingTest(ProgramTest):
    def test_offset_and_slopes(self):
        line = Line(Ratio(1, 2), b=2, a=Ratio(-1, 3), c=0, d=Ratio(0))
        self.assert_same(line.offset, Ratio(1, 2))
        self.assert_same(line.names, ("a", "b"))
        for name, slope in (("a", Ratio(-1, 3)), ("b", Ratio(2)), ("c", Ratio(0)), ("d", Ratio(0)), ("e", Ratio(0))):
            self.assert_same(line.slope_of(name), slope)
        self.assert_same(line.slope_of(name="a"), Ratio(-1, 3))

    def test_defaults_and_names_of_arguments(self):
        self.assert_same((Line().offset, Line().names), (Ratio(0), ()))
        self.assert_same((Line(the_offset=3, a=1).offset, Line(the_offset=3, a=1).names), (Ratio(3), ("a",)))
        self.assert_same(Line(offset=3).names, ("offset",))
        self.assert_same(Line(abcdefgh=1, z=1).names, ("abcdefgh", "z"))

    def test_wrong_offset(self):
        for wrong in NO_NUMBERS + (Line(),):
            self.assert_error(InvalidRatio, {"value": wrong}, Line, wrong)
            self.assert_error(InvalidRatio, {"value": wrong}, Line, a=None, the_offset=wrong, B=1)

    def test_wrong_names(self):
        for wrong in BAD_WORDS:
            self.assert_error(InvalidName, {"name": wrong}, Line, 1, **{wrong: 1})
            self.assert_error(InvalidName, {"name": wrong}, Line, 1, **{wrong: None})

    def test_wrong_slopes(self):
        for wrong in NO_NUMBERS + (Line(),):
            self.assert_error(InvalidRatio, {"value": wrong}, Line, 0, a=wrong)
            self.assert_error(InvalidRatio, {"value": wrong}, Line, b="other", a=wrong)

    def test_names_in_ascending_order(self):
        self.assert_error(InvalidName, {"name": "b1"}, Line, c=None, b1=None)
        self.assert_error(InvalidRatio, {"value": "first"}, Line, b1=1, a="first")
        self.assert_error(InvalidRatio, {"value": "first"}, Line, b="second", a="first")
        self.assert_error(InvalidName, {"name": "B"}, Line, a=None, B=1)

    def test_wrong_name_of_a_slope(self):
        for wrong in NO_NAMES:
            self.assert_error(InvalidName, {"name": wrong}, Line(a=1).slope_of, wrong)


class ValueTest(ProgramTest):
    def test_values(self):
        line = Line(Ratio(-1, 2), a=Ratio(3, 4), b=-2)
        self.assert_same(line.at(a=2, b=5), Ratio(-9))
        self.assert_same(line.at(b=0, a=0), Ratio(-1, 2))
        self.assert_same(line.at(a=1, b=0, c=7, zz=0), Ratio(1, 4))
        self.assert_same(line.at(a=10 ** 150, b=0) - Ratio(3, 4) * 10 ** 150, Ratio(-1, 2))

    def test_without_names(self):
        self.assert_same(Line(3).at(), Ratio(3))
        self.assert_same(Line(3, a=0).at(), Ratio(3))
        self.assert_same(Line().at(a=5), Ratio(0))

    def test_wrong_sizes(self):
        for wrong in NO_NUMBERS + (-1, -10 ** 20, Ratio(1), Line()):
            self.assert_error(InvalidNumber, {"number": wrong}, Line(b=1).at, a=wrong)
            self.assert_error(InvalidNumber, {"number": wrong}, Line(b=1).at, c=None, b=wrong)

    def test_wrong_names(self):
        for wrong in BAD_WORDS + ("the_offset",):
            self.assert_error(InvalidName, {"name": wrong}, Line(a=1).at, **{wrong: 1})
            self.assert_error(InvalidName, {"name": wrong}, Line(a=1).at, **{wrong: None})

    def test_order_of_the_errors(self):
        self.assert_error(InvalidName, {"name": "b1"}, Line().at, c=None, b1=1)
        self.assert_error(InvalidNumber, {"number": None}, Line().at, a=None, b1=1)
        self.assert_error(InvalidNumber, {"number": -1}, Line(a=1).at, b=-1)
        self.assert_error(UnknownName, {"name": "b"}, Line(c=1, b=2, a=3).at, a=1)
        self.assert_error(UnknownName, {"name": "a"}, Line(c=1, b=2, a=3).at)
        self.assert_error(UnknownName, {"name": "c"}, Line(c=1, b=0).at, a=3, d=1)


class OperatorsTest(ProgramTest):
    def test_sums_and_differences(self):
        for left, right in pairs_with_a_line():
            for sign in (operator.add, operator.sub):
                found = sign(left, right)
                self.assertIs(type(found), Line)
                for sizes in SIZES:
                    self.assert_same(found.at(**sizes), sign(value(left, sizes), value(right, sizes)))

    def test_products_and_negative(self):
        for line, number in product(LINES, (0, 1, -2, 10 ** 20, Ratio(0), Ratio(-3, 4), Ratio(5))):
            for found in (line * number, number * line):
                self.assertIs(type(found), Line)
                for sizes in SIZES:
                    self.assert_same(found.at(**sizes), line.at(**sizes) * number)
            self.assertEqual(-line, line * -1)
            self.assertIs(type(-line), Line)

    def test_slopes_that_become_zero(self):
        line = Line(1, a=1, b=2)
        self.assert_same((line - Line(b=2)).names, ("a",))
        self.assert_same((line - line).names, ())
        self.assert_same((line * 0).names, ())
        self.assertEqual(line - line, Line())

    def test_operands_stay(self):
        left, right = Line(1, a=2), Line(3, b=4)
        for sign in (operator.add, operator.sub, operator.le, operator.lt, operator.eq):
            sign(left, right)
            sign(5, left)
        left * 3, -left, str(left), left.at(a=1)
        self.assert_same((str(left), str(right)), ("2 a + 1", "4 b + 3"))

    def test_orders(self):
        for left, right in pairs_with_a_line():
            self.assert_same(left <= right, at_most(left, right))
            self.assert_same(left < right, below(left, right))
            self.assert_same(left >= right, at_most(right, left))
            self.assert_same(left > right, below(right, left))

    def test_orders_at_the_edge(self):
        a = Line(a=1)
        self.assert_same((a <= a, a < a, a >= a, a > a), (True, False, True, False))
        self.assert_same((0 <= a, 0 < a, a >= 0, a > 0, 0 >= a), (True, False, True, False, False))
        self.assert_same((a < Line(1, a=1), a < Line(1, a=2), a < Line(1, b=1), a <= Line(9)), (True, True, False, False))
        self.assert_same((Ratio(1, 2) < a + 1, a + 1 > Ratio(1, 2), Ratio(1) < a + 1), (True, True, False))

    def test_equality(self):
        one = Line(1, a=Ratio(1, 2), b=2)
        other = Line(b=1) + Ratio(1, 2) * Line(a=1) + 1 + Line(b=1, c=0)
        self.assert_same((one == other, one != other, one == one), (True, False, True))
        for line in LINES:
            for found in LINES:
                self.assert_same(line == found, parts(line) == parts(found))
                self.assert_same(line != found, parts(line) != parts(found))

    def test_never_equal_to_other_kinds(self):
        for line in (Line(), Line(1), Line(a=1)):
            for other in NO_NUMBERS + (0, 1, Ratio(0), Ratio(1)):
                self.assert_same((line == other, other == line), (False, False))
                self.assert_same((line != other, other != line), (True, True))

    def test_other_kinds_raise_a_type_error(self):
        signs = (
            operator.add, operator.sub, operator.mul, operator.lt, operator.le, operator.gt, operator.ge,
        )
        for line, other, sign in product((Line(), Line(1), Line(a=1)), NO_NUMBERS, signs):
            with self.assertRaises(TypeError):
                sign(line, other)
            with self.assertRaises(TypeError):
                sign(other, line)
        with self.assertRaises(TypeError):
            Line(2) * Line(a=1)

    def test_truth(self):
        for line in LINES:
            self.assertTrue(line)


class TextTest(ProgramTest):
    def test_str(self):
        for line, text in (
            (Line(), "0"), (Line(-3), "-3"), (Line(Ratio(1, 2)), "1/2"), (Line(a=1), "1 a"), (Line(0, a=0), "0"),
            (Line(5, a=0), "5"), (Line(b=1, a=Ratio(-1, 2)), "-1/2 a + 1 b"), (Line(-5, a=-1, b=-2), "-1 a + -2 b + -5"),
            (Line(0, zz=Ratio(4, 2)), "2 zz"), (Line(Ratio(7, 3), a=1), "1 a + 7/3"),
        ):
            self.assert_same(str(line), text)

    def test_repr(self):
        self.assert_same([repr(Line()), repr(Line(7, a=1)), repr(Line(a=1, b=2, c=0))], ["Line(0)", "Line(1)", "Line(2)"])
