import random
from fractions import Fraction
from itertools import permutations, product

from drawclaims.claims import Claims
from drawclaims.errors import InvalidName, InvalidNumber, InvalidSize, InvalidTables, NotClaims, UnknownName
from drawclaims.greatest import greatest_share
from drawclaims.holding import worst
from drawclaims.lines import Line
from drawclaims.plans import Plan
from drawclaims.ratios import Ratio
from drawclaims.surveys import Survey
from tests.claims_reference import bound, fraction, random_claims, ratio
from tests.helpers import OTHER, ProgramTest
from tests.reference import run

NO_INTEGERS = (True, False, None, "1", "", b"1", (), (1,), [], [1], {}, Ratio(2), OTHER)
NO_NAMES = ("A", "aB", "", "abcdefghi", "a b", "a1", "_a", "a_", "-", " ", "a\n")
NO_WORDS = NO_INTEGERS + (1, ("a",)) + NO_NAMES + ("self",)
HALF = Claims(Plan.fixed(2, 0), 2, (1, 0))
ONE = Claims(Plan.fixed(1, 0), 1, (0, 1))
THREE = Claims(Plan.fixed(3, 0, 1), 3, (1, 0), (2, 0))
GREATEST = 10 ** 150
FAR = 10 ** 30


def all_choices(parts, tables):
    """The wrong share of the choices of a draw for each table, choice by choice."""
    lists = []
    for claims, (size, marked) in zip(parts, tables):
        rows = [1] * marked + [0] * (size - marked)
        draws = permutations(rows, claims.plan.longest)
        lists.append([bound(claims, run(claims.plan.rows, draw)[0], size) < marked for draw in draws])
    choices = list(product(*lists))
    return Fraction(sum(any(choice) for choice in choices), len(choices))


def some_surveys(seed, many):
    source = random.Random(seed)
    claims = random_claims(seed, 40) + [HALF, ONE, THREE]
    for _ in range(many):
        names = source.sample(("a", "b", "abcdefgh", "zz", "name", "tables", "size"), source.randint(0, 3))
        yield {name: source.choice(claims) for name in names}


class SurveyTest(ProgramTest):
    def test_names(self):
        for tables in some_surveys(1, 60):
            survey = Survey(**tables)
            self.assert_same(survey.names, tuple(sorted(tables)))
            for name, claims in tables.items():
                self.assertIs(survey.claims_of(name), claims)
                self.assertIs(survey.claims_of(name=name), claims)
            self.assertTrue(survey)

    def test_order_of_names_means_nothing(self):
        one, other = Survey(b=ONE, a=HALF), Survey(a=HALF, b=ONE)
        self.assert_same((one.names, other.names), (("a", "b"), ("a", "b")))
        self.assert_same((str(one.line(b=0, a=0)), str(one.line(a=0, b=0))), ("1/2 a + 1", "1/2 a + 1"))
        pairs = {"b": (9, 2), "a": (7, 4)}
        self.assert_same(one.wrong_share(**pairs), other.wrong_share(a=(7, 4), b=(9, 2)))

    def test_equality(self):
        survey = Survey(a=HALF)
        self.assert_same((survey == survey, survey != survey, survey == Survey(a=HALF)), (True, False, False))
        self.assertFalse(survey == ("a",))

    def test_lines(self):
        for tables in some_surveys(2, 60):
            survey = Survey(**tables)
            names = sorted(tables)
            for numbers in product(*[range(tables[name].plan.classes) for name in names]):
                line = survey.line(**dict(zip(names, numbers)))
                self.assertIs(type(line), Line)
                total = Line()
                for name, number in zip(names, numbers):
                    total = total + tables[name].line(number, name)
                self.assertTrue(line == total)
        self.assert_same(str(Survey().line()), "0")
        self.assert_same(str(Survey(a=THREE, b=HALF).line(a=1, b=1)), "2/3 a + 1 b")

    def test_wrong_shares(self):
        source = random.Random(3)
        seen = set()
        for tables in some_surveys(3, 120):
            if all(claims.plan.longest <= 3 for claims in tables.values()):
                names = sorted(tables)
                pairs = []
                for name in names:
                    size = source.randint(tables[name].plan.longest, 4)
                    pairs.append((size, source.randint(0, size)))
                found = Survey(**tables).wrong_share(**dict(zip(names, pairs)))
                self.assert_same(found, ratio(all_choices([tables[name] for name in names], pairs)))
                seen.add((len(names), fraction(found) in (0, 1)))
        self.assertEqual(len(seen), 7)

    def test_great_sizes(self):
        survey = Survey(a=HALF, b=THREE)
        pairs = {"a": (10 ** 30, 6 * 10 ** 29), "b": (GREATEST, GREATEST // 2)}
        left = 1 - (1 - HALF.wrong_share(*pairs["a"])) * (1 - THREE.wrong_share(*pairs["b"]))
        self.assert_same(survey.wrong_share(**pairs), left)

    def test_greatest(self):
        for tables in some_surveys(4, 80):
            survey = Survey(**tables)
            for from_size in (1, 5, 10 ** 6, FAR):
                right = Fraction(1)
                for claims in tables.values():
                    right *= 1 - fraction(greatest_share(claims, from_size=from_size)[0])
                self.assert_same(survey.greatest(from_size=from_size), ratio(1 - right))
            self.assert_same(survey.greatest(), survey.greatest(from_size=1))
        self.assert_same((Survey().greatest(), Survey().greatest(from_size=FAR), Survey().wrong_share()), (Ratio(0),) * 3)
        self.assert_same((Survey(a=ONE).greatest(), Survey(a=ONE, b=HALF).greatest()), (Ratio(1), Ratio(1)))

    def test_default_of_from_size(self):
        survey = Survey(a=Claims(Plan.fixed(1, 0), 1, (1, -2)))
        self.assert_same((survey.greatest(), survey.greatest(from_size=2)), (Ratio(1), Ratio(1, 2)))

    def test_no_choice_of_tables_is_worse(self):
        for tables in some_surveys(5, 60):
            survey = Survey(**tables)
            for from_size in (1, 7):
                most = survey.greatest(from_size=from_size)
                for size in range(from_size, from_size + 9):
                    pairs = {}
                    for name, claims in tables.items():
                        fit = max(size, claims.plan.longest)
                        pairs[name] = (fit, worst(claims, fit)[1])
                    self.assertTrue(survey.wrong_share(**pairs) <= most)


class SurveyErrorsTest(ProgramTest):
    def setUp(self):
        self.survey = Survey(a=HALF, b=THREE)

    def test_making(self):
        for wrong in NO_NAMES:
            self.assert_error(InvalidName, {"name": wrong}, Survey, **{wrong: None, "zz": None})
        for wrong in NO_INTEGERS + (HALF.plan, Claims, Survey()):
            self.assert_error(NotClaims, {"value": wrong}, Survey, **{"c": None, "b": wrong, "a": HALF, "c1": None})
        self.assert_error(NotClaims, {"value": 1}, Survey, **{"b": None, "a": 1, "c1": HALF})
        self.assert_error(InvalidName, {"name": "B"}, Survey, **{"b": None, "a": 1, "B": HALF})

    def test_claims_of(self):
        for wrong in NO_WORDS:
            self.assert_error(InvalidName, {"name": wrong}, self.survey.claims_of, wrong)
        for name in ("c", "aa", "tables"):
            self.assert_error(UnknownName, {"name": name}, self.survey.claims_of, name)

    def test_line(self):
        for wrong in NO_NAMES:
            self.assert_error(InvalidName, {"name": wrong}, self.survey.line, **{wrong: None, "zz": 0})
        self.assert_error(UnknownName, {"name": "aa"}, self.survey.line, b=None, aa=None, a=0)
        self.assert_error(InvalidName, {"name": "B"}, self.survey.line, **{"a": None, "c": 1, "B": 0})
        for wrong in NO_INTEGERS + (-1, 2):
            self.assert_error(InvalidNumber, {"number": wrong}, self.survey.line, c=0, a=wrong)
        for wrong in NO_INTEGERS + (-1, 3):
            self.assert_error(InvalidNumber, {"number": wrong}, self.survey.line, b=wrong, a=1, c=0)
        self.assert_error(UnknownName, {"name": "c"}, self.survey.line, c=0, a=1)
        self.assert_error(UnknownName, {"name": "b"}, self.survey.line, a=1)
        self.assert_error(UnknownName, {"name": "a"}, self.survey.line, b=1)
        self.assert_error(UnknownName, {"name": "a"}, self.survey.line)

    def test_wrong_share(self):
        for wrong in NO_NAMES:
            self.assert_error(InvalidName, {"name": wrong}, self.survey.wrong_share, **{wrong: None, "zz": 0})
        self.assert_error(UnknownName, {"name": "aa"}, self.survey.wrong_share, b=None, aa=None, a=(2, 0))
        no_pairs = NO_INTEGERS + ((1, 0), (2, 3), (2, -1), (2,), (2, 1, 0), [2, 1], (True, 0), (2, True), (GREATEST + 1, 0), ("2", 1))
        for wrong in no_pairs:
            self.assert_error(InvalidTables, {"name": "a"}, self.survey.wrong_share, c=0, b=None, a=wrong)
            self.assert_error(InvalidTables, {"name": "b"}, self.survey.wrong_share, c=0, b=wrong, a=(2, 2))
        self.assert_error(InvalidTables, {"name": "b"}, self.survey.wrong_share, b=(2, 2))
        self.assert_error(UnknownName, {"name": "c"}, self.survey.wrong_share, c=(2, 2), a=(2, 2))
        self.assert_error(UnknownName, {"name": "b"}, self.survey.wrong_share, a=(2, 2))
        self.assert_error(UnknownName, {"name": "a"}, self.survey.wrong_share)
        self.assert_same(self.survey.wrong_share(b=(GREATEST, 0), a=(GREATEST, 0)), Ratio(0))

    def test_greatest(self):
        for wrong in NO_INTEGERS + (0, -1, FAR + 1):
            for survey in (self.survey, Survey()):
                self.assert_error(InvalidSize, {"value": wrong}, survey.greatest, from_size=wrong)
        with self.assertRaises(TypeError):
            self.survey.greatest(1)
