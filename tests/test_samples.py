import operator
import random
from itertools import combinations

from drawclaims.errors import Contradiction, InvalidMarks, InvalidNumber, InvalidShare, InvalidSize, NotASample, TooFew
from drawclaims.least import least_slopes
from drawclaims.plans import Plan
from drawclaims.ratios import Ratio
from drawclaims.samples import Book, Sample
from tests.claims_reference import fraction
from tests.helpers import OTHER, ProgramTest

NO_INTEGERS = (True, False, None, "1", "", b"1", (), (1,), [], [1], {}, Ratio(2), OTHER)
NO_KEYS = NO_INTEGERS + (-1, 10 ** 9 + 1, 10 ** 30)
NO_MARKS = (None, 0, 1, 2, "", "True", b"", (), (True,), [], {}, Ratio(0), Ratio(1), OTHER)
NO_SHARES = (True, False, None, 0, 1, "1/2", (1, 2), [], OTHER, Ratio(1), Ratio(-1, 2), Ratio(3, 2), Ratio(1, 10 ** 9 + 1))
GREATEST = 10 ** 150
FAR = 10 ** 30


def deep(levels):
    value = 1
    for _ in range(levels):
        value = (value,)
    return value


def sample_of(marks):
    return Sample(*sorted(marks.items()))


def looks_like(sample):
    return sample.pairs, sample.size, sample.marked


class SampleTest(ProgramTest):
    def test_properties(self):
        for pairs in ((), ((0, True),), ((3, False), (4, True), (10 ** 9, True))):
            sample = Sample(*pairs)
            self.assert_same(looks_like(sample), (pairs, len(pairs), sum(marked for _, marked in pairs)))
            self.assertIs(bool(sample), len(pairs) > 0)

    def test_equality(self):
        sample = Sample((1, True), (2, False))
        self.assert_same((sample == Sample((1, True), (2, False)), sample != Sample((1, True), (2, False))), (True, False))
        for other in (Sample(), Sample((1, True)), Sample((1, True), (2, True)), Sample((1, True), (3, False))):
            self.assert_same((sample == other, sample != other, other == sample), (False, True, False))
        for other in NO_INTEGERS + (sample.pairs,):
            self.assert_same((sample == other, other == sample, sample != other), (False, False, True))

    def test_joined_and_common(self):
        source = random.Random(1)
        contradictions = 0
        for _ in range(800):
            table = {key: source.random() < 0.5 for key in range(6)}
            left, right = [
                {key: marked ^ (source.random() < 0.1) for key, marked in table.items() if source.random() < 0.6} for _ in range(2)
            ]
            one, other = sample_of(left), sample_of(right)
            before = (looks_like(one), looks_like(other))
            parted = [key for key in sorted(left) if right.get(key, left[key]) != left[key]]
            if parted:
                contradictions += 1
                self.assert_error(Contradiction, {"key": parted[0]}, operator.or_, one, other)
                self.assert_error(Contradiction, {"key": parted[0]}, operator.or_, other, one)
            else:
                self.assert_same(looks_like(one | other), looks_like(sample_of({**left, **right})))
                self.assertTrue(one | other == other | one)
            common = {key: marked for key, marked in left.items() if right.get(key) is marked}
            self.assert_same(looks_like(one & other), looks_like(sample_of(common)))
            self.assert_same((looks_like(one), looks_like(other)), before)
        self.assertGreater(contradictions, 100)

    def test_joined_again(self):
        one, two, three = Sample((1, True), (9, False)), Sample((5, True)), Sample((0, False), (9, False))
        joined = one | two | three
        self.assert_same(looks_like(joined), (((0, False), (1, True), (5, True), (9, False)), 4, 2))
        self.assert_same(looks_like(joined & (one | two)), (((1, True), (5, True), (9, False)), 3, 2))
        self.assert_error(Contradiction, {"key": 5}, operator.or_, joined, Sample((2, True), (5, False), (9, True)))
        self.assertTrue(joined | Sample() == joined)
        self.assertFalse(joined & Sample((1, False), (2, True)))
        self.assert_same((5 in joined, 2 in joined, 9 in joined & three), (True, False, True))

    def test_members(self):
        sample = Sample((0, False), (1, True), (10 ** 9, False))
        for value in (0, 1, 10 ** 9):
            self.assertIs(value in sample, True)
        for value in NO_INTEGERS + (-1, 2, 10 ** 30, Ratio(1), Ratio(0), (1, True), deep(60), tuple(range(1000))):
            self.assertIs(value in sample, False)
        self.assertIs(True in Sample((1, True)), False)

    def test_other_operands(self):
        for value in NO_INTEGERS:
            for sign in (operator.or_, operator.and_):
                with self.assertRaises(TypeError):
                    sign(Sample((1, True)), value)
                with self.assertRaises(TypeError):
                    sign(value, Sample((1, True)))

    def test_errors(self):
        for wrong in NO_KEYS:
            self.assert_error(InvalidMarks, {"index": 0}, Sample, (wrong, True))
            self.assert_error(InvalidMarks, {"index": 1}, Sample, (3, True), (wrong, True), None)
        for wrong in NO_MARKS:
            self.assert_error(InvalidMarks, {"index": 1}, Sample, (3, True), (4, wrong))
        for wrong in NO_INTEGERS + ((1, True, 2), [1, True], (1,), deep(69), "ab", {1: True, 2: True}):
            self.assert_error(InvalidMarks, {"index": 0}, Sample, wrong)
            self.assert_error(InvalidMarks, {"index": 2}, Sample, (1, True), (2, True), wrong, (0, True))
        for wrong in (0, 5, 6):
            self.assert_error(InvalidMarks, {"index": 2}, Sample, (5, True), (6, True), (wrong, True), None)


class BookTest(ProgramTest):
    def test_slopes(self):
        for share, bottom, longest, from_size in (
            (Ratio(1, 4), 2, 2, 1), (Ratio(0), 24, 7, 1), (Ratio(1, 10), 24, 7, 5), (Ratio(1, 3), 10, 4, FAR),
            (Ratio(9, 10), 1, 3, 1), (Ratio(1, 10 ** 9), 7, 5, 30),
        ):
            book = Book(share, bottom, longest, from_size=from_size)
            plans = [Plan.fixed(looked, *range(looked)) for looked in range(1, longest + 1)]
            self.assert_same(book.slopes, tuple(least_slopes(plan, share, bottom, from_size=from_size) for plan in plans))
            self.assert_same(book.longest, longest)
            named = Book(from_size=from_size, longest=longest, bottom=bottom, share=share)
            self.assert_same((named.slopes, named.longest), (book.slopes, longest))
        self.assert_same(Book(Ratio(1, 4), 5, 3).slopes, Book(Ratio(1, 4), 5, 3, from_size=1).slopes)

    def test_bounds(self):
        book = Book(Ratio(1, 5), 7, 4, from_size=9)
        for looked in range(1, 5):
            for marked in range(looked + 1):
                sample = Sample(*[(key, key < marked) for key in range(looked)])
                for size in (looked, looked + 1, 8, 9, 100, 10 ** 30, GREATEST):
                    wanted = size if marked == looked else book.slopes[looked - 1][marked] * size // 7
                    self.assert_same(book.bound(sample, size), wanted)
                    self.assert_same(book.bound(size=size, sample=sample), wanted)

    def test_all_pairs_of_sets(self):
        for share, bottom, from_size in ((Ratio(1, 4), 4, 1), (Ratio(1, 10), 24, 1), (Ratio(2, 5), 3, 5)):
            book = Book(share, bottom, 4, from_size=from_size)
            for size in range(from_size, 7):
                for marked in range(size + 1):
                    for one, other in ((1, 1), (1, 2), (2, 2), (3, 1)):
                        if max(one, other) <= size:
                            self.check_pairs(book, share, size, marked, one, other)

    def check_pairs(self, book, share, size, marked, one, other):
        """The claims for joined samples are wrong for at most the share, also with so many rows in common."""
        many, wrong = {}, {}
        for left in combinations(range(size), one):
            for right in combinations(range(size), other):
                joined = Sample(*[(key, key < marked) for key in left]) | Sample(*[(key, key < marked) for key in right])
                common = len(set(left) & set(right))
                many[common] = many.get(common, 0) + 1
                wrong[common] = wrong.get(common, 0) + (book.bound(joined, size) < marked)
        for common, count in many.items():
            self.assertLessEqual(wrong[common], fraction(share) * count)
        self.assertLessEqual(sum(wrong.values()), fraction(share) * sum(many.values()))

    def test_errors_of_making(self):
        for wrong in NO_SHARES:
            self.assert_error(InvalidShare, {"value": wrong}, Book, wrong, None, None, from_size=None)
        for wrong in NO_INTEGERS + (0, -1, 25, FAR):
            self.assert_error(InvalidNumber, {"number": wrong}, Book, Ratio(0), wrong, [0], from_size=None)
        for wrong in NO_INTEGERS + (0, -1, 8, FAR):
            self.assert_error(InvalidNumber, {"number": wrong}, Book, Ratio(0), 1, wrong, from_size=None)
        for wrong in NO_INTEGERS + (0, -1, FAR + 1):
            self.assert_error(InvalidSize, {"value": wrong}, Book, Ratio(0), 1, 1, from_size=wrong)
        with self.assertRaises(TypeError):
            Book(Ratio(0), 1, 1, 1)

    def test_errors_of_bound(self):
        book = Book(Ratio(1, 4), 2, 2)
        two = Sample((1, True), (2, False))
        for wrong in NO_INTEGERS + (two.pairs, Sample, book):
            self.assert_error(NotASample, {"value": wrong}, book.bound, wrong, None)
        for wrong in NO_INTEGERS + (-1, 0, 1, GREATEST + 1):
            self.assert_error(InvalidSize, {"value": wrong}, book.bound, two, wrong)
        three = two | Sample((7, False))
        for sample in (three, Sample()):
            for wrong in NO_INTEGERS + (-1, sample.size - 1, GREATEST + 1):
                self.assert_error(InvalidSize, {"value": wrong}, book.bound, sample, wrong)
            for size in (sample.size, 9, GREATEST):
                self.assert_error(TooFew, {"looked": sample.size}, book.bound, sample, size)

    def test_truth_and_equality(self):
        book = Book(Ratio(1, 4), 2, 2)
        self.assertTrue(book)
        self.assert_same((book == book, book != book, book == Book(Ratio(1, 4), 2, 2)), (True, False, False))
