import random
from itertools import permutations, product

from drawclaims.claims import Claims
from drawclaims.errors import InvalidKeys, InvalidLayers, InvalidMarks, InvalidSize, TooFew
from drawclaims.greatest import greatest_share
from drawclaims.layers import Layers, partners
from drawclaims.lines import Line
from drawclaims.plans import Plan
from drawclaims.ratios import Ratio
from tests.claims_reference import bound, fraction, random_claims
from tests.helpers import OTHER, ProgramTest
from tests.reference import run

NO_INTEGERS = (True, False, None, "1", "", b"1", (), (1,), [], [1], {}, Ratio(2), OTHER)
NO_KEYS = NO_INTEGERS + (-1, 10 ** 9 + 1, 10 ** 30)
HALF = Claims(Plan.fixed(2, 0), 2, (1, 0))
EARLY = Claims(Plan.looks((1, 0), (3, 1)), 3, (1, 2))
FAR = 10 ** 30


def marks_at(level, values):
    return tuple(int(value >= level) for value in values)


def line_of(parts, values):
    """The sum of the lines of the classes, by slope and offset."""
    slope, offset = Ratio(0), Ratio(0)
    for at, claims in enumerate(parts):
        number = run(claims.plan.rows, marks_at(at + 1, values))[0]
        pair = claims.lines[number] if number < len(claims.lines) else (claims.bottom, 0)
        slope, offset = slope + Ratio(pair[0], claims.bottom), offset + Ratio(pair[1], claims.bottom)
    return slope, offset


class PartnersTest(ProgramTest):
    def test_counts(self):
        source = random.Random(1)
        for _ in range(200):
            left, right = [tuple(source.randint(0, 5) for _ in range(source.randint(0, 8))) for _ in range(2)]
            wanted = tuple(sum(key == item for item in right) for key in left)
            self.assert_same(partners(left, right), wanted)
            self.assert_same(partners(right=right, left=left), wanted)
            pairs = [1 for one, other in product(left, right) if one == other]
            self.assertEqual(sum(partners(left, right)), len(pairs))

    def test_edges(self):
        self.assert_same((partners((), ()), partners((), (1,)), partners((0, 10 ** 9), ())), ((), (), (0, 0)))
        self.assert_same(partners((0, 10 ** 9), (10 ** 9, 10 ** 9, 1)), (0, 2))
        self.assert_same(sum(partners(tuple(range(2000)) * 5, tuple(range(1000)) * 5)), 25000)

    def test_errors(self):
        for wrong in (None, True, 1, "12", b"1", [], [1], {}, {1: 2}, Ratio(1), OTHER):
            self.assert_error(InvalidKeys, {"index": None}, partners, wrong, (1, None))
            self.assert_error(InvalidKeys, {"index": None}, partners, (1,), wrong)
            self.assert_error(InvalidKeys, {"index": None}, partners, right=(1, None), left=wrong)
        for wrong in NO_KEYS:
            self.assert_error(InvalidKeys, {"index": 2}, partners, (1, 1, wrong, wrong), (None,))
            self.assert_error(InvalidKeys, {"index": 0}, partners, (1, 1), (wrong, 3))


class LayersTest(ProgramTest):
    def test_properties(self):
        for parts in ((HALF,), (HALF, EARLY), (EARLY,) * 8, (HALF, Claims(Plan.fixed(20, 3), 1, (1, 0)), EARLY)):
            layers = Layers(*parts)
            self.assert_same(layers.levels, len(parts))
            self.assert_same(layers.longest, max(claims.plan.longest for claims in parts))

    def test_calls(self):
        source = random.Random(1)
        claims = random_claims(1, 40)
        for levels in range(1, 9):
            for _ in range(40):
                parts = [source.choice(claims) for _ in range(levels)]
                layers = Layers(*parts)
                values = tuple(source.choice((0, 1, 2, 3, 5, 8, 10 ** 299)) for _ in range(layers.longest + source.randint(0, 2)))
                slope, offset = line_of(parts, values)
                for line in (layers(values), layers(values=values)):
                    self.assertIs(type(line), Line)
                    self.assert_same((line.offset, line.slope_of("rows")), (offset, slope))
                    self.assert_same(line.names, ("rows",) if slope != 0 else ())

    def test_too_few(self):
        source = random.Random(2)
        claims = random_claims(2, 30) + [EARLY, HALF]
        few = 0
        for _ in range(300):
            parts = [source.choice(claims) for _ in range(source.randint(1, 4))]
            layers = Layers(*parts)
            values = tuple(source.randint(0, 5) for _ in range(source.randint(0, layers.longest)))
            looked = []
            for at, claim in enumerate(parts):
                more = marks_at(at + 1, values) + (0,) * 20
                looked.append(run(claim.plan.rows, more)[1])
            if max(looked) > len(values):
                few += 1
                self.assert_error(TooFew, {"looked": len(values)}, layers, values)
            else:
                self.assertIs(type(layers(values)), Line)
        self.assertTrue(100 < few < 280)
        self.assert_same(str(Layers(EARLY)((0,))), "1/3 rows + 2/3")
        self.assert_error(TooFew, {"looked": 1}, Layers(EARLY), (1,))
        self.assert_error(TooFew, {"looked": 0}, Layers(HALF), ())

    def test_most_share(self):
        source = random.Random(3)
        claims = random_claims(3, 40) + [HALF]
        for _ in range(80):
            parts = [source.choice(claims) for _ in range(source.randint(1, 8))]
            shares = []
            for from_size in (1, 6, 50, FAR):
                total = sum(fraction(greatest_share(part, from_size=from_size)[0]) for part in parts)
                shares.append(Layers(*parts).most_share(from_size=from_size))
                self.assertEqual(fraction(shares[-1]), min(total, 1))
            self.assertTrue(all(after <= before for before, after in zip(shares, shares[1:])))
            self.assert_same(Layers(*parts).most_share(), shares[0])
        quarters = [str(Layers(*[HALF] * many).most_share()) for many in (1, 3, 4, 5, 8)]
        self.assertEqual(quarters, ["1/4", "3/4", "1", "1", "1"])

    def test_default_of_from_size(self):
        layers = Layers(Claims(Plan.fixed(1, 0), 1, (1, -2)))
        self.assert_same((layers.most_share(), layers.most_share(from_size=2)), (Ratio(1), Ratio(1, 2)))

    def test_all_draws_of_small_tables(self):
        source = random.Random(4)
        tight = [Claims(Plan.fixed(2, 0), 4, (2, 0)), Claims(Plan.fixed(1, 0), 2, (1, 1)), HALF,
                 Claims(Plan.fixed(2, 0, 1), 3, (1, 0), (2, 0)), Claims(Plan.looks((1, 0), (3, 1)), 2, (1, 0))]
        wrong_ones = 0
        for _ in range(60):
            parts = [source.choice(tight) for _ in range(source.randint(1, 3))]
            layers = Layers(*parts)
            size = source.randint(layers.longest, 5)
            table = [source.randint(0, len(parts) + 1) for _ in range(size)]
            total = sum(min(value, len(parts)) for value in table)
            draws = list(permutations(range(size), layers.longest))
            wrong = 0
            for draw in draws:
                values = tuple(table[row] for row in draw)
                numbers = [run(part.plan.rows, marks_at(at + 1, values))[0] for at, part in enumerate(parts)]
                most = sum(bound(part, number, size) for part, number in zip(parts, numbers))
                self.assertTrue(layers(values).at(rows=size) >= most)
                wrong += total > most
            wrong_ones += wrong > 0
            self.assertLessEqual(wrong, fraction(layers.most_share(from_size=size)) * len(draws))
        self.assertGreater(wrong_ones, 5)

    def test_errors_of_making(self):
        self.assert_error(InvalidLayers, {"index": None}, Layers)
        self.assert_error(InvalidLayers, {"index": None}, Layers, *[HALF] * 9)
        self.assert_error(InvalidLayers, {"index": None}, Layers, None, *[HALF] * 8)
        for wrong in NO_INTEGERS + (1, HALF.plan, Claims, (HALF,), [HALF], Layers(HALF)):
            self.assert_error(InvalidLayers, {"index": 0}, Layers, wrong)
            self.assert_error(InvalidLayers, {"index": 7}, Layers, *[HALF] * 7, wrong)
            self.assert_error(InvalidLayers, {"index": 1}, Layers, HALF, wrong, None)

    def test_errors_of_calls(self):
        layers = Layers(HALF, EARLY)
        for wrong in (None, True, 1, "12", b"1", [], [1, 2, 3], {}, Ratio(1), OTHER, range(4)):
            self.assert_error(InvalidMarks, {"index": None}, layers, wrong)
        for wrong in NO_INTEGERS + (-1, -10 ** 30):
            self.assert_error(InvalidMarks, {"index": 0}, layers, (wrong,))
            self.assert_error(InvalidMarks, {"index": 4}, layers, (0, 1, 2, 9, wrong, wrong))
        for wrong in NO_INTEGERS + (0, -1, FAR + 1):
            self.assert_error(InvalidSize, {"value": wrong}, layers.most_share, from_size=wrong)
        with self.assertRaises(TypeError):
            layers.most_share(1)

    def test_truth_and_equality(self):
        layers = Layers(HALF)
        self.assertTrue(layers)
        self.assert_same((layers == layers, layers != layers, layers == Layers(HALF)), (True, False, False))
