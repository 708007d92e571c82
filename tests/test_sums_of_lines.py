import random

from drawclaims.lines import Line
from drawclaims.ratios import Ratio
from tests.helpers import ProgramTest

WORDS = ("a", "ab", "abc", "abcdefgh", "abcdefg", "b", "ba", "selfs", "sel", "z", "zz", "zzzzzzzz")


def number_of(source):
    number = Ratio(source.randint(-9, 9), source.randint(1, 4))
    return source.choice((number, number, source.randint(-5, 5)))


def summands_of(source):
    """A few lines of one or two names each, and numbers."""
    words = source.sample(WORDS, source.randint(2, 6))
    lines = [Line(number_of(source), **{word: number_of(source)}) for word in words]
    lines += [Line(number_of(source), **{word: number_of(source) for word in source.sample(words, 2)}) for _ in range(3)]
    return lines, [number_of(source) for _ in range(source.randint(0, 2))]


def total_of(summands):
    total = Line()
    for summand in summands:
        total = total + summand
    return total


def total_from_the_right(summands):
    total = 0
    for summand in summands:
        total = summand + total
    return total if isinstance(total, Line) else Line(total)


class SumsTest(ProgramTest):
    def check(self, lines, numbers, found):
        slopes = {}
        offset = Ratio(0)
        for line in lines:
            offset += line.offset
            for name in line.names:
                slopes[name] = slopes.get(name, Ratio(0)) + line.slope_of(name)
        for number in numbers:
            offset += number
        names = tuple(name for name in sorted(slopes) if slopes[name] != 0)
        self.assert_same(found.names, names)
        self.assert_same(found.offset, offset)
        for name in WORDS:
            self.assert_same(found.slope_of(name), slopes.get(name, Ratio(0)))
        parts = [f"{slopes[name]} {name}" for name in names]
        parts += [str(offset)] if offset != 0 or not names else []
        self.assert_same(str(found), " + ".join(parts))
        self.assert_same(repr(found), f"Line({len(names)})")

    def test_two_orders(self):
        source = random.Random(1)
        for _ in range(150):
            lines, numbers = summands_of(source)
            summands = lines + numbers
            one = total_of(summands)
            other = total_from_the_right(source.sample(summands, len(summands)))
            self.check(lines, numbers, one)
            self.check(lines, numbers, other)
            self.assert_same((one == other, one != other, str(one) == str(other)), (True, False, True))

    def test_other_sums(self):
        source = random.Random(2)
        for _ in range(60):
            lines, numbers = summands_of(source)
            total = total_of(lines + numbers)
            for word in WORDS:
                self.assert_same(total == total + Line(**{word: Ratio(1, 7)}), False)
            self.assert_same(total == total + Ratio(1, 7), False)
            self.assert_same(total != total - 1, True)

    def test_summands_taken_away_again(self):
        source = random.Random(3)
        for _ in range(60):
            lines, numbers = summands_of(source)
            left = total_of(lines + numbers)
            for summand in source.sample(lines, len(lines)):
                left = left - summand
            self.assert_same(left, total_of(numbers))
            self.assert_same(left.names, ())
            one = total_of(lines[1:] + numbers)
            self.assert_same(total_of(lines + numbers) - lines[0], one)
            self.assert_same(-lines[0] + total_of(lines + numbers), one)

    def test_beginnings_of_one_another(self):
        line = Line(ab=1) + Line(a=2) + Line(1, abc=Ratio(1, 2)) - Line(b=1)
        self.assert_same(line.names, ("a", "ab", "abc", "b"))
        self.assert_same(str(line), "2 a + 1 ab + 1/2 abc + -1 b + 1")
        self.assert_same(str(line - Line(ab=1)), "2 a + 1/2 abc + -1 b + 1")
        self.assert_same((line.slope_of("ab"), line.slope_of("abcd")), (Ratio(1), Ratio(0)))
        self.assert_same(line.at(a=1, ab=10, abc=100, b=1000, abcd=5), Ratio(-937))
