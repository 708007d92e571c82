import random
from fractions import Fraction

from drawclaims.errors import InvalidNumber, InvalidSeries
from drawclaims.ratios import Ratio
from drawclaims.series import ladder_of, runs_of, value_at
from tests.helpers import OTHER, ProgramTest

NO_INTEGERS = (True, False, None, "1", "", b"1", (), (1,), [], [1], {}, Ratio(2), OTHER)
FAR = (0, 1, 2, 19, 20, 21, 22, 1000, 10 ** 9 + 7, 10 ** 30)


def lagrange(values, place):
    """The value of the polynomial of least degree with these values at 0, 1, .., worked out item by item."""
    total = Fraction(0)
    for at, value in enumerate(values):
        part = Fraction(value)
        for other in range(len(values)):
            if other != at:
                part *= Fraction(place - other, at - other)
        total += part
    return int(total)


def product_at(factors, place):
    value = 1
    for factor in factors:
        value *= factor(place)
    return value


def root(at):
    return lambda place: place - at


def positive(at):
    return lambda place: (place - at) ** 2 + 1


def sign(value):
    return 1 if value >= 0 else -1


def runs_by(value, places):
    """The runs of a function that changes its sign at these places only."""
    runs = []
    for place in sorted({0} | {place for place in places if place > 0}):
        if not runs or runs[-1][1] != sign(value(place)):
            runs.append((place, sign(value(place))))
    return tuple(runs)


def differences(values):
    return tuple(after - before for before, after in zip(values, values[1:]))


class ValueTest(ProgramTest):
    def test_series_itself(self):
        source = random.Random(1)
        for length in range(1, 22):
            series = tuple(source.randint(-5 * 10 ** 8, 5 * 10 ** 8) for _ in range(length))
            self.assert_same(tuple(value_at(series, place) for place in range(length)), series)

    def test_far_places(self):
        source = random.Random(2)
        for length in (1, 2, 3, 5, 9, 14, 21):
            for most in (2, 5 * 10 ** 8, 10 ** 40):
                series = tuple(source.randint(-most, most) for _ in range(length))
                for place in FAR + (source.randint(0, 10 ** 30),):
                    self.assert_same(value_at(series, place), lagrange(series, place))

    def test_powers(self):
        for degree in range(21):
            series = tuple(t ** degree - 7 for t in range(21))
            for place in FAR:
                self.assert_same(value_at(series, place), place ** degree - 7)

    def test_by_name(self):
        self.assert_same(value_at(place=3, series=(0, 1)), 3)
        self.assert_same((runs_of(series=(-1, 0)), ladder_of(series=(5,))), (((0, -1), (1, 1)), (((0, 1),),)))


class RunsTest(ProgramTest):
    def check(self, factors, roots, times):
        series = tuple(times * product_at(factors, t) for t in range(len(roots) + 2 * (len(factors) - len(roots)) + 1))
        places = [place for each in roots for place in (each - 1, each, each + 1)]
        wanted = runs_by(lambda place: times * product_at(factors, place), places)
        self.assert_same(runs_of(series), wanted)
        self.assert_same(ladder_of(series)[-1], wanted)
        more = tuple(times * product_at(factors, t) for t in range(21))
        self.assert_same(runs_of(more), wanted)
        self.assert_same(ladder_of(more), ladder_of(series))

    def test_products(self):
        source = random.Random(3)
        for near in (0, 3, 40, 1000, 10 ** 9, 10 ** 30):
            for many in range(0, 9):
                roots = [near + source.randint(-20, 20) for _ in range(many)]
                roots += source.choices(roots, k=2) if roots else []
                squares = [positive(source.randint(0, near + 20)) for _ in range(source.randint(0, 3))]
                for times in (1, -1, 5 * 10 ** 8, -10 ** 25):
                    self.check([root(at) for at in roots] + squares, roots, times)

    def test_roots_of_all_sizes(self):
        source = random.Random(4)
        for many in (2, 5, 20):
            roots = [source.randint(-9, 10 ** source.randint(1, 31)) for _ in range(many)]
            for times in (1, -1):
                self.check([root(at) for at in roots], roots, times)

    def test_simple_and_repeated_roots(self):
        for at in (0, 1, 2, 999, 10 ** 30):
            below = ((0, -1), (at, 1)) if at else ((0, 1),)
            self.assert_same(runs_of((-at, 1 - at)), below)
            self.assert_same(runs_of((at, at - 1)), ((0, 1), (at + 1, -1)))
            self.assert_same(runs_of((at * at, (1 - at) ** 2, (2 - at) ** 2)), ((0, 1),))
            found = runs_of((-at * at, -(1 - at) ** 2, -(2 - at) ** 2))
            self.assert_same(found, ((0, -1), (at, 1), (at + 1, -1)) if at else ((0, 1), (1, -1)))

    def test_between_integers(self):
        # (2 t - 5) (2 t - 7) is less than 0 at 3 only.
        self.assert_same(runs_of((35, 15, 3)), ((0, 1), (3, -1), (4, 1)))
        self.assert_same(runs_of((-35, -15, -3)), ((0, -1), (3, 1), (4, -1)))

    def test_nowhere_zero(self):
        self.assert_same(runs_of((1, 2, 5)), ((0, 1),))
        self.assert_same(runs_of((-1, -2, -5)), ((0, -1),))

    def test_constants(self):
        for many in range(1, 22):
            self.assert_same(runs_of((0,) * many), ((0, 1),))
            self.assert_same(runs_of((7,) * many), ((0, 1),))
            self.assert_same(runs_of((-1,) * many), ((0, -1),))


class LadderTest(ProgramTest):
    def check(self, series):
        rows = [tuple(lagrange(series, t) for t in range(2 * len(series)))]
        while len(rows) < len(series):
            rows.append(differences(rows[-1]))
        top = max([order for order, row in enumerate(rows) if any(row)], default=0)
        wanted = [runs_of(rows[order][:len(series)]) for order in range(top, -1, -1)]
        self.assert_same(ladder_of(series), tuple(wanted))
        for order, runs in zip(range(top, -1, -1), ladder_of(series)):
            signs = {start: number for start, number in runs}
            now = None
            for t, value in enumerate(rows[order]):
                now = signs.get(t, now)
                self.assertEqual(now, sign(value))

    def test_each_item(self):
        source = random.Random(5)
        for length in (1, 2, 3, 4, 7, 12, 21):
            for most in (1, 3, 5 * 10 ** 8, 10 ** 30):
                self.check(tuple(source.randint(-most, most) for _ in range(length)))

    def test_form(self):
        source = random.Random(6)
        for _ in range(50):
            ladder = ladder_of(tuple(source.randint(-9, 9) for _ in range(source.randint(1, 12))))
            for runs in ladder:
                self.assertEqual(runs[0][0], 0)
                for (start, before), (after, now) in zip(runs, runs[1:]):
                    self.assertLess(start, after)
                    self.assertEqual(before, -now)

    def test_top(self):
        self.assert_same(ladder_of((0,)), (((0, 1),),))
        self.assert_same(ladder_of((0,) * 21), (((0, 1),),))
        self.assert_same(ladder_of((-4,) * 21), (((0, -1),),))
        self.assert_same(ladder_of((0, 1)), (((0, 1),), ((0, 1),)))
        self.assert_same(ladder_of((0, 0, 2)), (((0, 1),), ((0, 1),), ((0, 1),)))
        self.assert_same(ladder_of((3, 2, 1, 0)), (((0, -1),), ((0, 1), (4, -1))))


class ErrorsTest(ProgramTest):
    def test_no_series(self):
        for wrong in (None, True, 0, "12", b"12", [1, 2], [], {}, {1, 2}, range(3), Ratio(1), OTHER, (), (0,) * 22, (None,) * 22):
            self.assert_error(InvalidSeries, {"index": None}, value_at, wrong, -1)
            self.assert_error(InvalidSeries, {"index": None}, runs_of, wrong)
            self.assert_error(InvalidSeries, {"index": None}, ladder_of, series=wrong)

    def test_wrong_items(self):
        for wrong in NO_INTEGERS:
            for at in (0, 1, 20):
                series = (5,) * at + (wrong,) * (21 - at)
                self.assert_error(InvalidSeries, {"index": at}, value_at, series, None)
                self.assert_error(InvalidSeries, {"index": at}, runs_of, series)
                self.assert_error(InvalidSeries, {"index": at}, ladder_of, series)

    def test_wrong_places(self):
        for wrong in NO_INTEGERS + (-1, -10 ** 30):
            self.assert_error(InvalidNumber, {"number": wrong}, value_at, (1, 2), wrong)
            self.assert_error(InvalidNumber, {"number": wrong}, value_at, place=wrong, series=(0,))
