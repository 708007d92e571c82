import random

from drawclaims.claims import Claims
from drawclaims.desks import Desk, set_limit
from drawclaims.errors import (
    Busy, InvalidDeeds, InvalidName, InvalidNumber, InvalidShare, InvalidSize, NotClaims, NotHeld, NothingToUndo, UnknownName,
)
from drawclaims.plans import Plan
from drawclaims.ratios import Ratio
from drawclaims.surveys import Survey
from tests.claims_reference import random_claims
from tests.helpers import OTHER, ProgramTest

NO_INTEGERS = (True, False, None, "1", "", b"1", (), (1,), [], [1], {}, Ratio(2), OTHER)
NO_SHARES = (True, False, None, 0, 1, "1/2", (1, 2), [], OTHER, Ratio(1), Ratio(-1, 2), Ratio(3, 2), Ratio(1, 10 ** 9 + 1))
NO_NAMES = NO_INTEGERS + (1, ("a",), "A", "", "abcdefghi", "a b", "a1", "self", "a\n")
HALF = Claims(Plan.fixed(2, 0), 2, (1, 0))
ALWAYS_WRONG = Claims(Plan.fixed(1, 0), 1, (0, 1))
# Its greatest share falls with the size to begin from: at the size 2 it is 1, far out it comes near to 1/4.
FALLING = Claims(Plan.fixed(2, 0), 2, (1, -5))
FAR = 10 ** 30
HIGH = Ratio(10 ** 9 - 1, 10 ** 9)


class Expected:
    """What a desk should be: the limit and the tables behind each deed."""

    def __init__(self, limit, from_size):
        self.from_size = from_size
        self.states = [(limit, {})]
        self.history = []

    def share(self, tables=None):
        return Survey(**(self.states[-1][1] if tables is None else tables)).greatest(from_size=self.from_size)

    def after(self, deed):
        limit, tables = self.states[-1]
        if deed[0] == "limit":
            return deed[1], tables
        if deed[0] == "put":
            return limit, {**tables, deed[1]: deed[2]}
        return limit, {name: claims for name, claims in tables.items() if name != deed[1]}

    def fault(self, deed):
        """The error that the deed raises, with its fields, or None."""
        if deed[0] == "drop" and deed[1] not in self.states[-1][1]:
            return UnknownName, {"name": deed[1]}
        limit, tables = self.after(deed)
        share = self.share(tables)
        return (NotHeld, {"found": share}) if share > limit else None

    def do(self, deed):
        self.states.append(self.after(deed))
        self.history.append(deed)

    def undo(self, times):
        del self.states[-times:], self.history[-times:]


class DeskTest(ProgramTest):
    def check(self, desk, expected):
        limit, tables = expected.states[-1]
        self.assert_same((desk.limit, desk.share, desk.busy), (limit, expected.share(), False))
        self.assert_same((desk.names, desk.history), (tuple(sorted(tables)), tuple(expected.history)))
        survey = desk.survey()
        self.assert_same(survey.names, tuple(sorted(tables)))
        self.assertTrue(all(survey.claims_of(name) is claims for name, claims in tables.items()))

    def drawn_deed(self, source, claims):
        name = source.choice(("a", "b", "c", "tables"))
        kind = source.choice(("put", "put", "put", "drop", "limit"))
        if kind == "put":
            return "put", name, source.choice(claims)
        if kind == "drop":
            return "drop", name
        return "limit", source.choice((Ratio(1, 2), Ratio(9, 10), Ratio(1, 4), HIGH, Ratio(7, 16)))

    def call_for(self, source, desk, deed):
        if deed[0] == "put":
            return source.choice((lambda: desk.put(deed[1], deed[2]), lambda: desk.put(claims=deed[2], name=deed[1])))
        if deed[0] == "drop":
            return source.choice((lambda: desk.drop(deed[1]), lambda: desk.drop(name=deed[1])))
        return source.choice((
            lambda: setattr(desk, "limit", deed[1]), lambda: set_limit(desk, deed[1]), lambda: set_limit(limit=deed[1], desk=desk),
        ))

    def do_one(self, source, desk, expected, claims):
        deed = self.drawn_deed(source, claims)
        fault = expected.fault(deed)
        call = self.call_for(source, desk, deed)
        if fault is not None:
            self.assert_error(*fault, call)
            return
        found = call()
        expected.do(deed)
        self.assert_same(found, None if deed[0] == "limit" else expected.share())

    def do_some(self, source, desk, expected, claims):
        deeds = [self.drawn_deed(source, claims) for _ in range(source.randint(0, 3))]
        trial = Expected(*expected.states[-1][:1], expected.from_size)
        trial.states = [expected.states[-1]]
        shares, seen = [], []

        def watch(desk):
            seen.append((desk.share, desk.names, desk.limit, desk.busy, desk.history[len(expected.history):]))

        for deed in deeds:
            fault = trial.fault(deed)
            if fault is not None:
                self.assert_error(*fault, desk.do_all, *deeds, watch=watch)
                break
            trial.do(deed)
            shares.append(trial.share())
        else:
            self.assert_same(desk.do_all(*deeds, watch=watch), tuple(shares))
            for deed in deeds:
                expected.do(deed)
        wanted = [
            (share, tuple(sorted(tables)), limit, True, tuple(deeds[:at + 1]))
            for at, (share, (limit, tables)) in enumerate(zip(shares, trial.states[1:]))
        ]
        self.assert_same(seen, wanted)

    def take_back(self, source, desk, expected):
        times = source.randint(1, 3)
        if times > len(expected.history):
            self.assert_error(NothingToUndo, {}, desk.undo, times=times)
            return
        self.assertIs(desk.undo() if times == 1 else desk.undo(times=times), None)
        expected.undo(times)

    def test_two_desks_in_turn(self):
        source = random.Random(1)
        claims = random_claims(1, 12) + [HALF, FALLING]
        for _ in range(12):
            pairs = [(Desk(Ratio(3, 4)), Expected(Ratio(3, 4), 1)), (Desk(limit=HIGH, from_size=40), Expected(HIGH, 40))]
            for _ in range(30):
                desk, expected = source.choice(pairs)
                kind = source.random()
                if kind < 0.6:
                    self.do_one(source, desk, expected, claims)
                elif kind < 0.8:
                    self.do_some(source, desk, expected, claims)
                else:
                    self.take_back(source, desk, expected)
                for desk, expected in pairs:
                    self.check(desk, expected)

    def test_surveys_stay_as_they_were(self):
        desk = Desk(HIGH)
        first = desk.survey()
        desk.put("a", HALF)
        second = desk.survey()
        desk.put("a", Claims(Plan.fixed(2, 0), 4, (3, 0)))
        desk.put("b", HALF)
        self.assert_same((first.names, second.names, desk.survey().names), ((), ("a",), ("a", "b")))
        self.assertIs(second.claims_of("a"), HALF)
        desk.undo(times=3)
        self.assert_same((second.names, desk.names, first.greatest()), (("a",), (), Ratio(0)))

    def test_size_to_begin_from(self):
        self.assert_error(NotHeld, {"found": Ratio(1)}, Desk(HIGH).put, "a", FALLING)
        shares = []
        for from_size in (6, 10, 1000, FAR):
            shares.append(Survey(a=FALLING).greatest(from_size=from_size))
            self.assert_same(Desk(HIGH, from_size=from_size).put("a", FALLING), shares[-1])
            self.assert_error(NotHeld, {"found": shares[-1]}, Desk(Ratio(1, 4), from_size=from_size).put, "a", FALLING)
        self.assertTrue(all(after < before for before, after in zip(shares, shares[1:])))
        small = Claims(Plan.fixed(1, 0), 1, (1, -2))
        self.assert_error(NotHeld, {"found": Ratio(1)}, Desk(HIGH).put, "a", small)
        self.assert_same(Desk(HIGH, from_size=2).put("a", small), Ratio(1, 2))
        exact = Desk(shares[0], from_size=6)
        self.assert_same((exact.put("a", FALLING), exact.share), (shares[0], shares[0]))

    def test_limits(self):
        desk = Desk(Ratio(1, 4))
        self.assert_same((desk.limit, desk.share, desk.names, desk.busy, desk.history), (Ratio(1, 4), Ratio(0), (), False, ()))
        self.assert_same(desk.put("a", HALF), Ratio(1, 4))
        self.assert_error(NotHeld, {"found": Ratio(7, 16)}, desk.put, "b", HALF)
        self.assert_error(NotHeld, {"found": Ratio(1)}, desk.put, "a", ALWAYS_WRONG)
        self.assert_error(NotHeld, {"found": Ratio(1, 4)}, set_limit, desk, Ratio(1, 5))
        self.assert_error(NotHeld, {"found": Ratio(1, 4)}, setattr, desk, "limit", Ratio(0))
        self.assertIs(set_limit(desk, Ratio(1, 2)), None)
        self.assert_same(desk.put("b", HALF), Ratio(7, 16))
        self.assert_error(NotHeld, {"found": Ratio(7, 16)}, set_limit, desk, Ratio(437499999, 10 ** 9))
        desk.limit = Ratio(7, 16)
        self.assert_same((desk.limit, desk.share), (Ratio(7, 16), Ratio(7, 16)))
        wanted = (("put", "a", HALF), ("limit", Ratio(1, 2)), ("put", "b", HALF), ("limit", Ratio(7, 16)))
        self.assert_same(desk.history, wanted)
        desk.undo(times=4)
        self.assert_same((desk.limit, desk.share, desk.names, desk.history), (Ratio(1, 4), Ratio(0), (), ()))

    def test_truth_and_equality(self):
        desk = Desk(HIGH)
        self.assertTrue(desk)
        self.assert_same((desk == desk, desk != desk, desk == Desk(HIGH)), (True, False, False))


class DeskErrorsTest(ProgramTest):
    def setUp(self):
        self.desk = Desk(Ratio(1, 2))
        self.desk.put("a", HALF)

    def refused(self, wanted, fields, call, *args, **more):
        self.assert_error(wanted, fields, call, *args, **more)
        desk = self.desk
        self.assert_same((desk.limit, desk.share, desk.names, desk.busy), (Ratio(1, 2), Ratio(1, 4), ("a",), False))
        self.assert_same((desk.history, desk.survey().claims_of("a")), ((("put", "a", HALF),), HALF))

    def test_making(self):
        for wrong in NO_SHARES:
            self.assert_error(InvalidShare, {"value": wrong}, Desk, wrong, from_size=None)
            self.assert_error(InvalidShare, {"value": wrong}, Desk, from_size=0, limit=wrong)
        for wrong in NO_INTEGERS + (0, -1, FAR + 1):
            self.assert_error(InvalidSize, {"value": wrong}, Desk, Ratio(0), from_size=wrong)
        with self.assertRaises(TypeError):
            Desk(Ratio(0), 1)

    def test_put_and_drop(self):
        for wrong in NO_NAMES:
            self.refused(InvalidName, {"name": wrong}, self.desk.put, wrong, None)
            self.refused(InvalidName, {"name": wrong}, self.desk.drop, wrong)
            self.refused(InvalidName, {"name": wrong}, self.desk.do_all, ("drop", wrong))
        for wrong in NO_INTEGERS + (HALF.plan, Claims, Survey(a=HALF)):
            self.refused(NotClaims, {"value": wrong}, self.desk.put, "a", wrong)
            self.refused(NotClaims, {"value": wrong}, self.desk.do_all, ("put", "b", wrong))
        self.refused(UnknownName, {"name": "b"}, self.desk.drop, "b")

    def test_limit(self):
        for wrong in NO_SHARES:
            self.refused(InvalidShare, {"value": wrong}, set_limit, self.desk, wrong)
            self.refused(InvalidShare, {"value": wrong}, setattr, self.desk, "limit", wrong)
            self.refused(InvalidShare, {"value": wrong}, self.desk.do_all, ("drop", "a"), ("limit", wrong))

    def test_undo(self):
        for wrong in NO_INTEGERS + (0, -1):
            self.refused(InvalidNumber, {"number": wrong}, self.desk.undo, times=wrong)
        for many in (2, 3, 10 ** 299):
            self.refused(NothingToUndo, {}, self.desk.undo, times=many)
        with self.assertRaises(TypeError):
            self.desk.undo(1)
        self.desk.undo()
        self.assert_error(NothingToUndo, {}, self.desk.undo)

    def test_deeds(self):
        good = ("drop", "a")
        for wrong in NO_INTEGERS + (
            ("put",), ("put", "a"), ("put", "a", HALF, 1), ("drop",), ("drop", "a", "b"), ("limit",), ("limit", Ratio(0), 1),
            ("Put", "a", HALF), ("undo", 1), (1, "a"), (None, "a", HALF), ([], "a"), (("drop",), "a"), ["drop", "a"], "drop", (True, 1),
            ({}, 1), (Ratio(1), 2), (OTHER, 2), (b"drop", "a"), ("", ""),
        ):
            self.refused(InvalidDeeds, {"index": 0}, self.desk.do_all, wrong)
            self.refused(InvalidDeeds, {"index": 1}, self.desk.do_all, good, wrong, wrong)
            self.refused(InvalidDeeds, {"index": 2}, self.desk.do_all, ("drop", 1), ("limit", 2), wrong)

    def test_errors_of_later_deeds(self):
        put = ("put", "b", HALF)
        for fault, fields, *deeds in (
            (NotHeld, {"found": Ratio(37, 64)}, put, ("put", "c", HALF)), (UnknownName, {"name": "c"}, put, ("drop", "c")),
            (UnknownName, {"name": "a"}, ("drop", "a"), ("drop", "a")), (NotHeld, {"found": Ratio(7, 16)}, put, ("limit", Ratio(1, 4))),
            (InvalidName, {"name": None}, put, ("put", None, None), ("drop", "zz")), (NotHeld, {"found": Ratio(1)}, ("put", "c", ALWAYS_WRONG)),
            (NotClaims, {"value": 7}, put, ("drop", "a"), ("put", "d", 7)), (InvalidShare, {"value": None}, ("limit", None), ("limit", 1)),
        ):
            seen = []
            self.refused(fault, fields, self.desk.do_all, *deeds, watch=lambda desk: seen.append(desk.history[1:]))
            self.assert_same(seen, [tuple(deeds[:at + 1]) for at in range(len(seen))])


class DoAllTest(ProgramTest):
    def test_results(self):
        desk = Desk(Ratio(1, 2))
        self.assert_same((desk.do_all(), desk.do_all(watch=None), desk.history), ((), (), ()))
        deeds = (("put", "a", HALF), ("limit", HIGH), ("put", "b", HALF), ("drop", "a"))
        self.assert_same(desk.do_all(*deeds, watch=None), (Ratio(1, 4), Ratio(1, 4), Ratio(7, 16), Ratio(1, 4)))
        self.assert_same((desk.history, desk.names, desk.limit), (deeds, ("b",), HIGH))
        desk.undo()
        self.assert_same((desk.history, desk.names), (deeds[:3], ("a", "b")))

    def test_watch_sees_each_deed(self):
        desk = Desk(HIGH)
        desk.put("z", HALF)
        deeds = (("put", "a", HALF), ("drop", "z"), ("limit", Ratio(1, 4)))
        seen = []

        def watch(found):
            self.assertIs(found, desk)
            seen.append((found.busy, found.share, found.names, found.limit, len(found.history), found.survey().names))

        desk.do_all(*deeds, watch=watch)
        self.assert_same(seen, [
            (True, Ratio(7, 16), ("a", "z"), HIGH, 2, ("a", "z")), (True, Ratio(1, 4), ("a",), HIGH, 3, ("a",)),
            (True, Ratio(1, 4), ("a",), Ratio(1, 4), 4, ("a",)),
        ])
        self.assertIs(desk.busy, False)

    def changes_of(self, desk):
        return (
            lambda: desk.put(None, None), lambda: desk.put("b", HALF), lambda: desk.drop("zz"), lambda: desk.drop("a"),
            lambda: desk.undo(), lambda: desk.undo(times=None), lambda: desk.undo(times=99), lambda: desk.do_all(),
            lambda: desk.do_all(None), lambda: desk.do_all(("drop", "a"), watch=None), lambda: set_limit(desk, None),
            lambda: set_limit(desk, HIGH), lambda: setattr(desk, "limit", HIGH),
        )

    def test_busy_inside(self):
        desk, other = Desk(HIGH), Desk(HIGH)
        tried = []

        def watch(found):
            for change in self.changes_of(found):
                self.assert_error(Busy, {}, change)
                self.assertIs(found.busy, True)
                tried.append(1)
            other.put("a", HALF)

        self.assert_same(desk.do_all(("put", "a", HALF), ("limit", Ratio(1, 2)), watch=watch), (Ratio(1, 4), Ratio(1, 4)))
        self.assert_same((len(tried), desk.busy, len(other.history)), (26, False, 2))
        self.assert_same(desk.put("b", HALF), Ratio(7, 16))

    def test_busy_is_passed_on(self):
        for at in range(13):
            desk = Desk(HIGH)
            desk.put("c", HALF)

            def watch(found):
                self.changes_of(found)[at]()

            self.assert_error(Busy, {}, desk.do_all, ("put", "a", HALF), ("drop", "c"), watch=watch)
            self.assert_same((desk.names, desk.busy, len(desk.history), desk.limit), (("c",), False, 1, HIGH))

    def test_errors_of_watch_are_passed_on(self):
        for error in (InvalidSize(7), NotHeld(1), ValueError("a"), KeyError(3), TypeError(), StopIteration(4), KeyboardInterrupt(), RuntimeError()):
            for last in range(3):
                desk = Desk(HIGH)
                desk.put("c", HALF)
                desk.put("d", HALF)
                before = (desk.share, desk.names, desk.limit, desk.history, desk.busy)
                count = []

                def watch(found):
                    count.append(1)
                    if len(count) == last + 1:
                        raise error

                with self.assertRaises(type(error)) as caught:
                    desk.do_all(("put", "a", HALF), ("limit", Ratio(9, 10)), ("drop", "c"), watch=watch)
                self.assertIs(caught.exception, error)
                self.assertEqual(len(count), last + 1)
                self.assert_same((desk.share, desk.names, desk.limit, desk.history, desk.busy), before)
                desk.undo(times=2)
                self.assert_same((desk.names, desk.share), ((), Ratio(0)))
