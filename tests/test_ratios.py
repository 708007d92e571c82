import operator
from fractions import Fraction

from drawclaims.errors import InvalidNumber, InvalidText
from drawclaims.ratios import Ratio, is_share
from tests.helpers import OTHER, ProgramTest

BIG = 10 ** 299 + 7
NO_INTEGERS = (True, False, None, "1", "", b"1", (), (1,), [], [1], {}, Ratio(1), OTHER)
NO_NUMBERS = tuple(value for value in NO_INTEGERS if not isinstance(value, Ratio))
NUMBERS = (
    Ratio(0), Ratio(1), Ratio(-1), Ratio(1, 2), Ratio(-1, 2), Ratio(7, 3), Ratio(-7, 3), Ratio(12, 18),
    Ratio(BIG, 3), Ratio(-BIG, BIG - 1), Ratio(3, BIG), 0, 1, -1, 2, -3, BIG, -BIG,
)
ARITHMETIC = (operator.add, operator.sub, operator.mul)
ORDERS = (operator.lt, operator.le, operator.gt, operator.ge)


def fraction(number):
    return Fraction(number.top, number.bottom) if isinstance(number, Ratio) else Fraction(number)


def pairs_with_a_ratio():
    for left in NUMBERS:
        for right in NUMBERS:
            if isinstance(left, Ratio) or isinstance(right, Ratio):
                yield left, right


class MakingTest(ProgramTest):
    def check(self, ratio, top, bottom, floor):
        self.assertIs(type(ratio), Ratio)
        self.assert_same((ratio.top, ratio.bottom, ratio.floor), (top, bottom, floor))

    def test_lowest_terms(self):
        self.check(Ratio(6, 4), 3, 2, 1)
        self.check(Ratio(-6, 4), -3, 2, -2)
        self.check(Ratio(3, 1), 3, 1, 3)
        self.check(Ratio(30, 10), 3, 1, 3)
        self.check(Ratio(5 * BIG, 10 * BIG), 1, 2, 0)

    def test_zero(self):
        self.check(Ratio(0), 0, 1, 0)
        self.check(Ratio(0, 12), 0, 1, 0)

    def test_bottom_left_out(self):
        self.check(Ratio(7), 7, 1, 7)
        self.check(Ratio(top=-7), -7, 1, -7)
        self.check(Ratio(BIG), BIG, 1, BIG)

    def test_by_name(self):
        self.check(Ratio(top=2, bottom=6), 1, 3, 0)
        self.check(Ratio(bottom=6, top=-2), -1, 3, -1)
        self.check(Ratio(2, bottom=6), 1, 3, 0)

    def test_floor(self):
        for top in range(-13, 14):
            for bottom in range(1, 7):
                self.assert_same(Ratio(top, bottom).floor, top // bottom)
        self.assert_same(Ratio(-BIG, 2).floor, -(BIG + 1) // 2)

    def test_wrong_top(self):
        for value in NO_INTEGERS:
            self.assert_error(InvalidNumber, {"number": value}, Ratio, value)
            self.assert_error(InvalidNumber, {"number": value}, Ratio, top=value, bottom=2)

    def test_wrong_bottom(self):
        for value in NO_INTEGERS + (0, -1, -BIG):
            self.assert_error(InvalidNumber, {"number": value}, Ratio, 1, value)
            self.assert_error(InvalidNumber, {"number": value}, Ratio, bottom=value, top=0)

    def test_both_wrong(self):
        for value in NO_INTEGERS:
            self.assert_error(InvalidNumber, {"number": value}, Ratio, value, 0)
            self.assert_error(InvalidNumber, {"number": value}, Ratio, bottom=OTHER, top=value)


class TextTest(ProgramTest):
    def test_str_and_repr(self):
        cases = (
            (Ratio(1, 2), "1/2", "Ratio(1, 2)"), (Ratio(-1, 2), "-1/2", "Ratio(-1, 2)"),
            (Ratio(4, 2), "2", "Ratio(2, 1)"), (Ratio(0, 5), "0", "Ratio(0, 1)"),
            (Ratio(-3), "-3", "Ratio(-3, 1)"), (Ratio(10, 100), "1/10", "Ratio(1, 10)"),
        )
        for ratio, text, shown in cases:
            self.assert_same(str(ratio), text)
            self.assert_same(repr(ratio), shown)
            self.assert_same(f"{ratio}", text)

    def test_long_text(self):
        top = int("7" * 3999)
        self.assert_same(str(Ratio(top, 10)), "7" * 3999 + "/10")
        self.assert_same(Ratio.read("-" + "7" * 3999 + "/10").top, -top)

    def test_read_what_str_gives(self):
        for number in NUMBERS:
            text = str(number)
            read = Ratio.read(text)
            self.assertIs(type(read), Ratio)
            self.assert_same(read, Ratio(number.top, number.bottom) if isinstance(number, Ratio) else Ratio(number))
            self.assert_same(str(Ratio.read(text=text)), text)
        for top in range(-12, 13):
            for bottom in range(1, 13):
                ratio = Ratio(top, bottom)
                self.assert_same(repr(Ratio.read(str(ratio))), repr(ratio))

    def test_read_nearly_written(self):
        texts = (
            "", " ", "-", "+", "/", "+1", "+1/2", "--1", "-+1", "1-", "1/-2", "-1/-2", "1/+2", "-0", "-0/1", "-0/2",
            " 1", "1 ", "1\n", "\n1", "1 /2", "1/ 2", "1/2 ", " 1/2", "1/2\n", "01", "00", "-01", "01/2", "1/02",
            "1/", "/2", "-/2", "//", "1//2", "1/2/3", "1/2/", "/1/2", "2/4", "-2/4", "3/3", "0/2", "0/3",
            "1/1", "-1/1", "0/1", "5/1", "1/0", "0/0", "-1/0", "1/00", "1.0", "1,0", "1_0", "1_0/3", "0x1", "1e3",
            "one", "1/two", "Ratio(1, 2)", "1/2a", "a1/2", "0" * 5000, "1/" + "0" * 5000,
        )
        for text in texts:
            self.assert_error(InvalidText, {"text": text}, Ratio.read, text)
            self.assert_error(InvalidText, {"text": text}, Ratio.read, text=text)

    def test_read_what_is_no_text(self):
        for value in (0, 1, -1, True, False, None, b"1", b"1/2", ("1",), ["1"], {}, Ratio(1, 2), OTHER):
            self.assert_error(InvalidText, {"text": value}, Ratio.read, value)


class OperatorsTest(ProgramTest):
    def test_arithmetic(self):
        for left, right in pairs_with_a_ratio():
            for sign in ARITHMETIC:
                found, wanted = sign(left, right), sign(fraction(left), fraction(right))
                self.assertIs(type(found), Ratio)
                self.assert_same((found.top, found.bottom), (wanted.numerator, wanted.denominator))
                self.assert_same(found.floor, wanted.numerator // wanted.denominator)

    def test_negative(self):
        for number in NUMBERS[:11]:
            self.assert_same((-number).top, -number.top)
            self.assert_same((-number).bottom, number.bottom)
            self.assertIs(type(-number), Ratio)

    def test_comparisons(self):
        for left, right in pairs_with_a_ratio():
            for sign in ORDERS + (operator.eq, operator.ne):
                self.assert_same(sign(left, right), sign(fraction(left), fraction(right)))

    def test_equal_to_itself(self):
        self.assert_same(Ratio(2, 4) == Ratio(1, 2), True)
        self.assert_same(Ratio(4, 2) == 2, True)
        self.assert_same(2 != Ratio(4, 2), False)

    def test_never_equal_to_other_kinds(self):
        for ratio in (Ratio(0), Ratio(1), Ratio(1, 2)):
            for value in NO_NUMBERS:
                self.assert_same(ratio == value, False)
                self.assert_same(value == ratio, False)
                self.assert_same(ratio != value, True)
                self.assert_same(value != ratio, True)

    def test_other_kinds_raise_a_type_error(self):
        for ratio in (Ratio(0), Ratio(1), Ratio(1, 2)):
            for value in NO_NUMBERS:
                for sign in ARITHMETIC + ORDERS:
                    with self.assertRaises(TypeError):
                        sign(ratio, value)
                    with self.assertRaises(TypeError):
                        sign(value, ratio)

    def test_truth(self):
        for number in NUMBERS[:11]:
            self.assert_same(bool(number), number.top != 0)
        self.assertFalse(Ratio(0, 3))
        self.assertTrue(Ratio(-1, 3))

    def test_operands_stay(self):
        left, right = Ratio(3, 4), Ratio(-2, 3)
        for sign in ARITHMETIC + ORDERS + (operator.eq, operator.ne):
            sign(left, right)
            sign(left, 5)
            sign(5, right)
        total = left
        total += right
        total -= 1
        total *= 2
        self.assert_same((-left, bool(left), str(total)), (Ratio(-3, 4), True, "-11/6"))
        self.assert_same((left.top, left.bottom, left.floor), (3, 4, 0))
        self.assert_same((right.top, right.bottom, right.floor), (-2, 3, -1))


class ShareTest(ProgramTest):
    def test_shares(self):
        for ratio in (Ratio(0), Ratio(1, 2), Ratio(1, 10 ** 9), Ratio(10 ** 9 - 1, 10 ** 9), Ratio(2, 2 * 10 ** 9)):
            self.assert_same(is_share(ratio), True)
            self.assert_same(is_share(value=ratio), True)

    def test_no_shares(self):
        finest = 10 ** 9
        ratios = (
            Ratio(1), Ratio(2), Ratio(3, 2), Ratio(-1, 2), Ratio(-1), Ratio(-1, finest), Ratio(finest + 1, finest),
            Ratio(1, finest + 1), Ratio(finest, finest + 1), Ratio(1, 10 ** 290),
        )
        for value in ratios + NO_NUMBERS + (0, 1, -1, "1/2", "0", (1, 2), (0, 1)):
            self.assert_same(is_share(value), False)
