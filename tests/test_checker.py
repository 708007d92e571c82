import random
from itertools import product
from math import prod

from drawclaims import checker_claims
from drawclaims.certificates import (
    certify_bounds, certify_comparison, certify_greatest, certify_holding, certify_sinking, certify_slope,
)
from drawclaims.checker import accepts
from drawclaims.checker_claims import Question
from drawclaims.checker_counts import every_weight, weight_up_to
from drawclaims.checker_ladders import is_ladder
from drawclaims.claims import Claims
from drawclaims.greatest import greatest_share
from drawclaims.holding import failing, holds_always
from drawclaims.least import least_bounds, least_slopes
from drawclaims.plans import Plan
from drawclaims.ratios import Ratio
from drawclaims.series import ladder_of
from tests.certificate_reference import ANY_PARTS, changed_once, class_ladders, deep, is_right, ladder_at, ladders
from tests.claims_reference import random_claims, some_claims
from tests.helpers import ProgramTest, same
from tests.reference import all_marks, classes_fit, each_form, is_rising, random_plans, random_rows, run, some_plans

SHARES = (Ratio(0), Ratio(1, 1000), Ratio(1, 20), Ratio(1, 5), Ratio(1, 4), Ratio(1, 3), Ratio(1, 2), Ratio(9, 10), Ratio(999999999, 10 ** 9))
HALF = Claims(Plan.fixed(2, 0), 2, (1, 0))
ROWS = HALF.plan.rows
LINES = HALF.lines
LADDER = ((0, 1),)
GREATEST = 10 ** 150
FAR = 10 ** 30


def sinking_rows(seed, many):
    source = random.Random(seed)
    found = [("-", "0-", ".10"), ("-", "10"), ("-", "--", "-01", "11..")]
    while len(found) < many:
        rows = random_rows(source, source.randint(1, 5), source.randint(2, 4))
        rows = tuple("".join(source.choice("0123") if letter.isdigit() and source.random() < 0.2 else letter for letter in row) for row in rows)
        if len(rows) > 1 and classes_fit(rows) and not is_rising(rows):
            found.append(rows)
    return found


def claims_with_peaks():
    """Claims whose greatest share is reached behind the least size with a rest, so that a ladder has turns."""
    kinds = (
        (9, 3, 3, 2, -5), (10, 2, 5, 2, -6), (6, 2, 4, 3, -5), (16, 2, 4, 1, -5), (14, 4, 2, 1, -4), (6, 1, 2, 1, -3),
        (7, 1, 3, 2, -6), (3, 1, 5, 4, -3), (6, 3, 4, 3, -3), (13, 6, 3, 2, -5),
    )
    return [Claims(Plan.fixed(looked, limit), bottom, (slope, offset)) for looked, limit, bottom, slope, offset in kinds]


def some_pairs(seed, longest=3):
    """Claims of all words with their certificates."""
    source = random.Random(seed)
    claims = random_claims(seed, 12, longest, (1, 2, 3)) + [HALF] + some_claims()[:4]
    plans = random_plans(seed, 8, longest) + [HALF.plan, Plan.looks((1, 0), (3, 1))]
    pairs = []
    for each in claims:
        for from_size in (1, 5, FAR):
            pairs.append(certify_greatest(each, from_size=from_size))
            share = greatest_share(each, from_size=from_size)[0]
            for ratio in (source.choice(SHARES), share if share < 1 and share.bottom <= 10 ** 9 else SHARES[-1]):
                pairs.append(certify_holding(each, ratio, from_size=from_size))
    for plan in plans:
        for _ in range(3):
            pairs.append(certify_bounds(plan, source.choice(SHARES), source.choice((plan.longest, 7, 50, GREATEST))))
            pairs.append(certify_slope(
                plan, source.randint(0, plan.classes - 2), source.choice(SHARES), source.choice((1, 2, 5)),
                offset=source.choice((0, 1, 9, 1000)), from_size=source.choice((1, 20, FAR)),
            ))
            pairs.append(certify_comparison(plan, source.choice(plans)))
            pairs.append(certify_comparison(plan, plan.curtailed()))
    return pairs + [certify_sinking(*rows) for rows in sinking_rows(seed, 12)]


class OwnTest(ProgramTest):
    def test_own_certificates(self):
        words = {}
        for claim, certificate in some_pairs(1, 5):
            self.assertIs(accepts(claim, certificate), True)
            words[claim[0]] = words.get(claim[0], 0) + 1
        self.assertEqual(len(words), 8)
        self.assertTrue(min(words.values()) >= 10, words)

    def test_by_name(self):
        claim, certificate = certify_holding(HALF, Ratio(1, 4))
        self.assertIs(accepts(certificate=certificate, claim=claim), True)
        self.assertIs(accepts(certificate=claim, claim=certificate), False)


class ChangedTest(ProgramTest):
    """The checker beside what the functions of the program find."""

    def check(self, pair, counts):
        found = accepts(*pair)
        self.assertIs(type(found), bool)
        if found is not is_right(*pair):
            self.fail(f"accepts gives {found} for {pair!r}")
        counts[found] += 1

    def test_one_or_two_changes(self):
        source = random.Random(2)
        counts = {True: 0, False: 0}
        for pair in some_pairs(2):
            for _ in range(60):
                other = changed_once(source, pair)
                self.check(other, counts)
                if isinstance(other[0], tuple) and other[0] and source.random() < 0.5:
                    self.check(changed_once(source, other), counts)
        self.assertGreater(counts[True], 100)
        self.assertGreater(counts[False], 10000)

    def test_any_part_in_the_place_of_each_part(self):
        counts = {True: 0, False: 0}
        for pair in (
            certify_holding(HALF, Ratio(1, 4)), certify_holding(HALF, Ratio(1, 5)), certify_greatest(HALF),
            certify_greatest(Claims(Plan.fixed(2, 0), 2, (1, -3))), certify_bounds(HALF.plan, Ratio(1, 5), 9),
            certify_slope(HALF.plan, 0, Ratio(1, 4), 2), certify_comparison(HALF.plan, HALF.plan.curtailed()),
            certify_comparison(HALF.plan, Plan.fixed(1, 0)), certify_sinking("-", "0-", ".10"),
        ):
            for part in ANY_PARTS:
                for side in (0, 1):
                    self.check(pair[:side] + (part,) + pair[side + 1:], counts)
                    whole = pair[side]
                    for at in range(len(whole)):
                        more = whole[:at] + (part,) + whole[at + 1:]
                        self.check(pair[:side] + (more,) + pair[side + 1:], counts)
                    for more in (whole + (part,), (part,) + whole):
                        self.check(pair[:side] + (more,) + pair[side + 1:], counts)
        self.assertGreater(counts[False], 2500)

    def test_values_of_any_kind(self):
        for claim in ANY_PARTS + tuple((word,) for word in ("always", "sinking", "", None)):
            for certificate in ANY_PARTS:
                self.assertIs(accepts(claim, certificate), False)

    def test_exchanged_certificates(self):
        source = random.Random(3)
        pairs = some_pairs(3)
        counts = {True: 0, False: 0}
        for claim, _ in pairs:
            for _ in range(12):
                self.check((claim, source.choice(pairs)[1]), counts)
        self.assertGreater(counts[False], 500)

    def test_words(self):
        for claim, certificate in some_pairs(4):
            for word in ("always", "fails", "greatest", "bounds", "slope", "alike", "unlike", "sinking"):
                if word != claim[0]:
                    self.assertIs(accepts((word,) + claim[1:], certificate), False)
            for word in (claim[0].upper(), claim[0].capitalize(), claim[0] + " ", claim[0][:-1], claim[0].encode(), (claim[0],)):
                self.assertIs(accepts((word,) + claim[1:], certificate), False)


class AlwaysTest(ProgramTest):
    def test_holding_or_not(self):
        source = random.Random(5)
        held = refused = 0
        for claims in random_claims(5, 60) + some_claims():
            for from_size in (1, 9, FAR):
                share = source.choice(SHARES)
                start = max(claims.plan.longest, from_size)
                try:
                    found = tuple(
                        tuple(ladder_at(claims.plan, number, claims.bottom, line, rest, share, start, 0) for rest in range(claims.bottom))
                        for number, line in enumerate(claims.lines)
                    )
                except Exception:
                    # There is a t0, but no series.
                    found = ((LADDER,) * claims.bottom,) * len(claims.lines)
                claim = ("always", claims.plan.rows, claims.bottom, claims.lines, (share.top, share.bottom), from_size)
                wanted = holds_always(claims, share, from_size=from_size)
                self.assertIs(accepts(claim, found), wanted)
                held += wanted
                refused += not wanted
        self.assertGreater(min(held, refused), 40)

    def test_bounds_below_0(self):
        for offset in (-1, -2, -3, -1000):
            for share in ((0, 1), (1, 2), (999999999, 10 ** 9)):
                claim = ("always", ROWS, 1, ((0, offset),), share, 1)
                for certificate in (((),), (((),),), ((LADDER,),), (((LADDER,),),), ((((0, -1),),),), (((((0, -1),),),),)):
                    self.assertIs(accepts(claim, certificate), False)

    def test_no_series(self):
        # With the bound -2 there would be -1 marked rows; the draws that are counted so may be few.
        for plan in random_plans(14, 20, 4) + [Plan.fixed(3, 1), Plan.fixed(2, 0), Plan.fixed(5, 3)]:
            count = plan.classes - 1
            found = []
            for number in range(count):
                sizes = range(plan.longest, 2 * plan.longest + 1)
                series = [every_weight(size, plan.longest, 1) - weight_up_to(plan.rows, number, -1, size + 1, 1) - 1 for size in sizes]
                found.append((ladder_of(tuple(series)),))
            for number in range(count):
                claim = ("greatest", plan.rows, 1, ((0, -2),) * count, 1, (1, 1), None, None)
                self.assertIs(accepts(claim, ((), (number, tuple(found)))), False)
                self.assertIs(accepts(("always", plan.rows, 1, ((0, -2),) * count, (1, 2), 1), tuple(found)), False)

    def test_first_places(self):
        for bottom in (1, 2, 5):
            for slope, offset, rest, start in product(range(bottom + 1), (-9, -1, 0, 1, 7, 30), range(bottom), (1, 4, 13)):
                question = Question(ROWS, bottom, (0, 1), start, 0)
                sizes = [(t, bottom * t + rest) for t in range(200)]
                wanted = [t for t, size in sizes if size >= max(2, start) and (slope * size + offset) // bottom < size]
                self.assert_same(checker_claims._first_place(question, (slope, offset), rest), wanted[0] if wanted else None)

    def test_no_place(self):
        for offset in (0, 1, 1000):
            claim = ("always", ROWS, 3, ((3, offset),), (0, 1), 1)
            self.assertIs(accepts(claim, (((),) * 3,)), True)
            self.assertIs(accepts(claim, ((LADDER,) * 3,)), False)
        self.assertIs(accepts(("always", ROWS, 3, ((3, -1),), (0, 1), 1), (((),) * 3,)), False)

    def test_shares(self):
        claim, certificate = certify_holding(HALF, Ratio(1, 4))
        for share in ((2, 8), (1, 3), (0, 1), (0, 4), (-1, -4), (True, 4), (1, 4, 1), (1,), [1, 4], Ratio(1, 4), 1, (4, 1), (1, 1), (1, 0), (0, 0), (1, -4)):
            self.assertIs(accepts(claim[:4] + (share,) + claim[5:], certificate), False)
        big = certify_holding(Claims(Plan.fixed(1, 0), 1, (1, 0)), Ratio(1, 10 ** 9))
        self.assertIs(accepts(*big), True)
        self.assertIs(accepts(big[0][:4] + ((1, 10 ** 9 + 1),) + big[0][5:], big[1]), False)

    def test_sizes(self):
        claim, certificate = certify_holding(HALF, Ratio(1, 4), from_size=FAR)
        self.assertIs(accepts(claim, certificate), True)
        for from_size in (0, FAR + 1, -1, True, None, "1", (1,)):
            self.assertIs(accepts(claim[:5] + (from_size,), certificate), False)


class LadderTest(ProgramTest):
    """Ladders with many turns, each changed a little."""

    def test_turns(self):
        source = random.Random(6)
        long_ones = 0
        for claims in claims_with_peaks() + random_claims(6, 15, 6, (1, 2)):
            claim, (above, beside) = certify_greatest(claims)
            self.assertIs(accepts(claim, (above, beside)), True)
            for number, rests in enumerate(above):
                for rest, ladder in enumerate(rests):
                    long_ones += sum(len(runs) > 1 for runs in ladder)
                    for _ in range(20):
                        other = self.near(source, ladder)
                        if other != ladder:
                            more = rests[:rest] + (other,) + rests[rest + 1:]
                            self.assertIs(accepts(claim, (above[:number] + (more,) + above[number + 1:], beside)), False)
        self.assertGreater(long_ones, 30)

    def test_series_of_any_kind(self):
        source = random.Random(7)
        most = 0
        for _ in range(400):
            length = source.randint(1, 21)
            values = tuple(source.randint(-9, 9) * source.choice((0, 1, 1, 10 ** 40)) for _ in range(length))
            if source.random() < 0.5:
                roots = [source.randint(0, 60) for _ in range(length - 1)]
                values = tuple(prod(t - root for root in roots) - source.choice((0, 1)) for t in range(length))
            ladder = ladder_of(values)
            most = max(most, len(ladder[-1]))
            self.assertIs(is_ladder(ladder, list(values)), True)
            for _ in range(15):
                other = self.near(source, ladder)
                if other != ladder:
                    self.assertIs(is_ladder(other, list(values)), False)
        self.assertGreater(most, 7)

    def test_wrong_parts(self):
        values = [54, -3, 2, 7, -90]
        ladder = ladder_of(tuple(values))
        for at in range(len(ladder)):
            for part in ANY_PARTS:
                self.assertIs(is_ladder(ladder[:at] + (part,) + ladder[at + 1:], values), False)
                runs = ladder[at][:-1] + (part,)
                self.assertIs(is_ladder(ladder[:at] + (runs,) + ladder[at + 1:], values), False)
                runs = ladder[at] + (part,)
                self.assertIs(is_ladder(ladder[:at] + (runs,) + ladder[at + 1:], values), False)
                for run_at, (start, sign) in enumerate(ladder[at]):
                    for pair in ((part, sign), (start, part)):
                        runs = ladder[at][:run_at] + (pair,) + ladder[at][run_at + 1:]
                        other = ladder[:at] + (runs,) + ladder[at + 1:]
                        self.assertIs(is_ladder(other, values), same(other, ladder))
        for part in ANY_PARTS:
            self.assertIs(is_ladder(part, values), False)
            self.assertIs(is_ladder(ladder + (part,), values), False)
        self.assertIs(is_ladder(list(ladder), values), False)
        self.assertIs(is_ladder(((list(LADDER[0]),),), [0]), False)
        self.assertIs(is_ladder((LADDER,), [0]), True)

    def near(self, source, ladder):
        if not ladder:
            return (LADDER,)
        at = source.randint(0, len(ladder) - 1)
        runs = list(ladder[at])
        place = source.randint(0, len(runs) - 1)
        start, sign = runs[place]
        kind = source.choice(("move", "turn", "drop", "split", "all", "far", "more"))
        if kind == "move":
            runs[place] = (start + source.choice((-1, 1)), sign)
        elif kind == "turn":
            runs[place] = (start, -sign)
        elif kind == "drop":
            runs.pop(place)
        elif kind == "split":
            runs[place + 1:place + 1] = [(start + 1, -sign), (start + 2, sign)]
        elif kind == "all":
            runs = [(first, -each) for first, each in runs]
        elif kind == "far":
            runs.append((runs[-1][0] + 10 ** source.randint(0, 200), -runs[-1][1]))
        else:
            return ladder[:at] + (LADDER,) + ladder[at:]
        return ladder[:at] + (tuple(runs),) + ladder[at + 1:]


class FailsTest(ProgramTest):
    def test_all_small_tables(self):
        accepted = 0
        for claims in random_claims(7, 25, 3) + some_claims()[:6]:
            for share in (Ratio(0), Ratio(1, 5), Ratio(2, 3)):
                for size in range(claims.plan.longest - 1, 9):
                    for marked in range(-1, size + 2):
                        claim = ("fails", claims.plan.rows, claims.bottom, claims.lines, (share.top, share.bottom), size, marked)
                        wanted = is_right(claim, ())
                        self.assertIs(accepts(claim, ()), wanted)
                        accepted += wanted
        self.assertGreater(accepted, 500)

    def test_great_sizes(self):
        share = (249999999, 10 ** 9)
        for size, wanted in ((10 ** 8, False), (10 ** 10 + 1, True), (10 ** 20, True), (GREATEST, True), (GREATEST + 1, False)):
            claim = ("fails", ROWS, 2, LINES, share, size, size // 2 + 1)
            self.assertIs(accepts(claim, ()), wanted)
            self.assertIs(accepts(claim[:6] + (size // 2,), ()), False)
            self.assertIs(accepts(claim, ((),)), False)


class GreatestTest(ProgramTest):
    def test_reached_at_any_table(self):
        one = Claims(Plan.fixed(1, 0), 1, (0, -2))
        claim, certificate = certify_greatest(one)
        self.assert_same((claim[5:], certificate), (((1, 1), 1, 0), ((), ())))
        for size, marked, wanted in (
            (1, 0, True), (1, 1, False), (7, 0, True), (7, 1, False), (GREATEST, 0, True), (GREATEST + 1, 0, False), (0, 0, False), (None, 0, False),
            (1, None, False), (None, None, False),
        ):
            self.assertIs(accepts(claim[:6] + (size, marked), certificate), wanted)
        later = claim[:4] + (5, (1, 1))
        for size, wanted in ((4, False), (5, True), (6, True)):
            self.assertIs(accepts(later + (size, 0), certificate), wanted)

    def test_reached_told_as_not_reached_and_back(self):
        reached = unreached = 0
        for claims in random_claims(8, 80) + some_claims():
            share, size, _ = greatest_share(claims)
            pair = (share.top, share.bottom)
            claim, certificate = certify_greatest(claims)
            start = claims.plan.longest
            try:
                above = () if share == 1 else ladders(claims, share, start)
                beside = tuple(
                    tuple(ladder_at(claims.plan, number, claims.bottom, line, rest, share, start, 1) for rest in range(claims.bottom))
                    for number, line in enumerate(claims.lines)
                )
            except Exception:
                continue
            for number in range(-1, len(claims.lines) + 1):
                other = claim[:6] + (None, None), (above, (number, beside))
                self.assertIs(accepts(*other), is_right(*other))
                unreached += accepts(*other)
            if size is None:
                for table in ((start, 0), (start, start), (100, 51), (GREATEST, GREATEST // 2 + 1)):
                    self.assertIs(accepts(claim[:5] + (pair,) + table, (above, ())), False)
            else:
                reached += 1
                self.assertIs(accepts(claim, (certificate[0], (0, beside))), False)
        self.assertGreater(min(reached, unreached), 15)

    def test_other_shares(self):
        for claims in random_claims(9, 30) + some_claims():
            share, size, marked = greatest_share(claims)
            claim, certificate = certify_greatest(claims)
            for other in (Ratio(0), Ratio(1), Ratio(1, 2), share * Ratio(1, 2), (share + 1) * Ratio(1, 2), share + Ratio(1, 10 ** 40)):
                if other != share and other <= 1:
                    start = claims.plan.longest
                    try:
                        above = () if other == 1 else ladders(claims, other, start)
                    except Exception:
                        above = certificate[0]
                    told = claim[:5] + ((other.top, other.bottom),)
                    for table in ((size, marked), (None, None), (start, 0)):
                        for beside in (certificate[1], (), (0, above)):
                            self.assertIs(accepts(told + table, (above, beside)), False)

    def test_classes_with_the_same_limit(self):
        claims = Claims(Plan.fixed(3, 0, 1), 2, (1, 0), (2, 0))
        same_ones = Claims(Plan("-", "0-", ".12"), 2, (1, 3), (1, 3))
        for each in (claims, same_ones):
            claim, certificate = certify_greatest(each)
            self.assertIs(claim[6], None)
            for number in range(2):
                other = claim, (certificate[0], (number, certificate[1][1]))
                self.assertIs(accepts(*other), is_right(*other))


class BoundsTest(ProgramTest):
    def test_all_bounds(self):
        accepted = 0
        for plan in random_plans(10, 15, 4) + [Plan.fixed(2, 0), Plan.fixed(3, 0, 1)]:
            for share in (Ratio(0), Ratio(1, 5), Ratio(4, 7)):
                size = plan.longest + 2
                wanted = least_bounds(plan, share, size)
                for bounds in product(range(-1, size + 2), repeat=min(len(wanted), 2)):
                    bounds += wanted[2:]
                    claim = ("bounds", plan.rows, (share.top, share.bottom), size, bounds)
                    self.assertIs(accepts(claim, ()), bounds == wanted)
                    accepted += bounds == wanted
        self.assertEqual(accepted, 51)

    def test_great_sizes(self):
        plan = Plan.fixed(20, 0, 3, 9)
        claim, certificate = certify_bounds(plan, Ratio(1, 100), GREATEST)
        self.assertIs(accepts(claim, certificate), True)
        for number, step in product(range(3), (-1, 1)):
            bounds = claim[4][:number] + (claim[4][number] + step,) + claim[4][number + 1:]
            self.assertIs(accepts(claim[:4] + (bounds,), ()), False)
        self.assertIs(accepts(claim[:3] + (GREATEST + 1,) + claim[4:], ()), False)


class SlopeTest(ProgramTest):
    def test_each_slope(self):
        source = random.Random(11)
        for plan in random_plans(11, 12, 4) + [Plan.fixed(2, 0), Plan.fixed(3, 0, 1)]:
            for bottom in (1, 3, 6):
                share, offset, from_size = source.choice(SHARES), source.choice((0, 1, 20)), source.choice((1, 9, FAR))
                least = least_slopes(plan, share, bottom, offset=offset, from_size=from_size)
                start = max(plan.longest, from_size)
                for number, slope in product(range(plan.classes - 1), range(bottom + 1)):
                    claim = ("slope", plan.rows, number, bottom, offset, (share.top, share.bottom), from_size, slope)
                    try:
                        found = class_ladders(plan, number, bottom, (slope, offset), share, start)
                    except Exception:
                        found = ((LADDER,),) * bottom
                    below = certify_slope(plan, number, share, bottom, offset=offset, from_size=from_size)[1][1]
                    for size in (None, start, below, 10 ** 40, GREATEST):
                        wanted = is_right(claim, (found, size))
                        self.assertIs(accepts(claim, (found, size)), wanted)
                        self.assertTrue(slope == least[number] or not wanted)
                    self.assertTrue(slope != least[number] or accepts(claim, (found, below)))

    def test_any_failing_size(self):
        claim, certificate = certify_slope(Plan.fixed(2, 0), 0, Ratio(1, 4), 2)
        self.assert_same((claim[7], certificate[0]), (1, ((LADDER, LADDER), (LADDER, LADDER))))
        accepted = [size for size in range(0, 60) if accepts(claim, (certificate[0], size))]
        # With the slope 0 the bound is 0: one marked row is missed by more than a quarter of the draws from 3 rows on.
        self.assertEqual(accepted, list(range(3, 60)))
        self.assertIs(accepts(claim, (certificate[0], None)), False)
        self.assertIs(accepts(claim, (certificate[0], GREATEST)), True)
        self.assertIs(accepts(claim, (certificate[0], GREATEST + 1)), False)

    def test_parts(self):
        claim, certificate = certify_slope(Plan.fixed(2, 0), 0, Ratio(1, 4), 2)
        for at, wrong in ((2, 1), (2, -1), (3, 0), (3, 25), (4, -1), (4, 1001), (5, (1, 1)), (6, 0), (6, FAR + 1), (7, 3), (7, -1)):
            self.assertIs(accepts(claim[:at] + (wrong,) + claim[at + 1:], certificate), False)


class ComparisonTest(ProgramTest):
    def test_alike(self):
        plans = [plan for plan in some_plans() if plan.longest <= 5]
        for plan, other in product(plans, plans[::7]):
            marks = all_marks(max(plan.longest, other.longest))
            parted = [each for each in marks if run(plan.rows, each)[0] != run(other.rows, each)[0]]
            self.assertIs(accepts(("alike", plan.rows, other.rows), ()), not parted)
            for each in marks:
                self.assertIs(accepts(("unlike", plan.rows, other.rows), each), each in parted)

    def test_marks(self):
        one, three = Plan.fixed(1, 0).rows, Plan.fixed(3, 0).rows
        self.assertIs(accepts(("unlike", one, three), (0, 1, 0)), True)
        self.assertIs(accepts(("unlike", three, one), (0, 1, 1)), True)
        for wrong in ((0, 1), (0, 1, 0, 0), (0, True, 0), (False, 1, 0), (0, 2, 0), [0, 1, 0], "010", (), None, (0, 0, 0), (0, 1, (0,))):
            self.assertIs(accepts(("unlike", one, three), wrong), False)

    def test_long_plans(self):
        plan = Plan.fixed(20, 0, 4, 9)
        self.assertIs(accepts(("alike", plan.rows, plan.curtailed().rows), ()), True)
        self.assertIs(accepts(("alike", plan.rows, Plan.fixed(20, 0, 4, 10).rows), ()), False)
        self.assertIs(accepts(("unlike", plan.rows, Plan.fixed(20, 0, 4, 10).rows), (1,) * 10 + (0,) * 10), True)
        self.assertIs(accepts(("unlike", plan.rows, Plan.fixed(20, 0, 4, 10).rows), (1,) * 9 + (0,) * 11), False)


class RowsTest(ProgramTest):
    def test_sinking(self):
        accepted = 0
        for rows in sinking_rows(12, 40) + [plan.rows for plan in random_plans(12, 20, 4)]:
            for marks in all_marks(len(rows) - 1):
                for place in range(-1, len(rows)):
                    wanted = is_right(("sinking", rows), (marks, place))
                    self.assertIs(accepts(("sinking", rows), (marks, place)), wanted)
                    accepted += wanted
        self.assertGreater(accepted, 100)

    def test_each_form_of_rows(self):
        plans = sunk = 0
        for rows in each_form(2, "012") + each_form(3, "01"):
            rising = self.is_plan(rows)
            self.assertIs(accepts(("alike", rows, rows), ()), rising)
            found = certify_sinking(*rows) if classes_fit(rows) else None
            plans += rising
            if found is not None:
                sunk += 1
                self.assertIs(accepts(*found), True)
        self.assertGreater(min(plans, sunk), 40)

    def is_plan(self, rows):
        return classes_fit(rows) and is_rising(rows)

    def test_wrong_rows(self):
        good = ("-", "--", "-11", "01..")
        wrong = [
            (), ("-",), ("-", "--"), ("-", "--", "-11"), ("-", "--", "-11", "01"), ("-", "--", "-11", "01.."[::-1]), ("-", "--", "-11", "01.", "...."),
            ("-", "--", "-11", "00..", "....."), ("-", "--", "-11", "0-.."), ("0", ".."), (".", ".."), ("-", "00"), ("-", "11"), ("-", "02"), ("-", "12"), ("-", "08"), ("-", "10"),
            ("-", "0 "), ("-", "0", "1"), ("-", ["0", "1"]), ("-", ("0", "1")), ("-", b"01"), ("-", 1), ("-", None), ["-", "01"], "-01", ("-", "01\n"), ("", "01"),
            ("--", "01"), ("-", "--", "-0.", "01.."), ("-", "..", "..."), ("-",) * 2, good + ("00000",), good + (".....",),
        ]
        for rows in wrong:
            self.assertIs(accepts(("alike", rows, rows), ()), False)
            self.assertIs(accepts(("alike", ("-", "01"), rows), ()), False)
        self.assertIs(accepts(("alike", ("-", "01"), ("-", "01")), ()), True)
        longest = tuple("-" * (m + 1) for m in range(20)) + ("0" * 10 + "1" * 11,)
        self.assertIs(accepts(("alike", longest, longest), ()), True)
        longer = tuple("-" * (m + 1) for m in range(21)) + ("0" * 10 + "1" * 12,)
        self.assertIs(accepts(("alike", longer, longer), ()), False)

    def test_lines(self):
        plan = Plan.fixed(2, 0, 1)
        for bottom, lines, wanted in (
            (2, ((2, 0), (2, 0)), True), (2, ((2, 0), (2, -1)), False), (2, ((2, 1), (1, 9)), False), (2, ((0, 4), (2, 0)), False), (2, ((1, 0), (2, -2)), False),
            (2, ((2, 0),), False), (2, ((2, 0), (2, 0), (2, 0)), False), (2, ((2, 0), (3, 0)), False), (2, ((2, 0), (2, 1001)), False), (2, ((2, 0), (2, 1000)), True),
            (25, ((25, 0), (25, 0)), False), (0, ((0, 0), (0, 0)), False), (2, [(2, 0), (2, 0)], False), (2, ([2, 0], (2, 0)), False), (True, ((1, 0), (1, 0)), False),
            (2, ((2, 0), (2, False)), False), (2, ((2, 0), (2, 0, 0)), False), (24, ((24, 0), (24, 0)), True), (1, ((True, 0), (1, 0)), False),
        ):
            certificate = (((),) * bottom,) * len(lines)
            self.assertIs(accepts(("always", plan.rows, bottom, lines, (0, 1), 1), certificate), wanted)

    def test_lines_that_rise(self):
        accepted = refused = 0
        for plan in (Plan.fixed(2, 0, 1), Plan.fixed(5, 1, 3)):
            for bottom in (1, 2, 3):
                lines = list(product(range(-1, bottom + 2), range(-4, 5)))
                for pair in product(lines, lines[::2]):
                    claim = ("fails", plan.rows, bottom, pair, (0, 1), 40, 39)
                    wanted = is_right(claim, ())
                    self.assertIs(accepts(claim, ()), wanted)
                    accepted += wanted
                    refused += not wanted
        self.assertGreater(min(accepted, refused), 200)

    def test_nothing_is_raised_for_deep_values(self):
        claim, certificate = certify_holding(HALF, Ratio(1, 4))
        for part in (deep(60), (deep(59),) * 2, {1: deep(50)}, [deep(50)]):
            for at in range(len(claim)):
                self.assertIs(accepts(claim[:at] + (part,) + claim[at + 1:], certificate), False)
            self.assertIs(accepts(claim, (part,)), False)
            self.assertIs(accepts(claim, ((part, part),)), False)
            self.assertIs(accepts(claim, (((part,), LADDER),)), False)

    def test_failing_pairs_are_checked(self):
        for claims in random_claims(13, 30) + some_claims():
            for share in SHARES:
                found = failing(claims, share)
                if found is not None:
                    claim = ("fails", claims.plan.rows, claims.bottom, claims.lines, (share.top, share.bottom)) + found
                    self.assertIs(accepts(claim, ()), True)
