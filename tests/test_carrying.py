import random
from itertools import product

from drawclaims.carrying import Carry
from drawclaims.errors import Contradiction, InvalidKeys, InvalidMarked, InvalidNumber, KnownRow, UnknownRow
from drawclaims.ratios import Ratio
from tests.helpers import OTHER, ProgramTest

NO_INTEGERS = (True, False, None, "1", "", b"1", (), (1,), [], [1], {}, Ratio(2), OTHER)
NO_KEYS = NO_INTEGERS + (-1, 10 ** 9 + 1, 10 ** 30)
NO_MARKS = (None, 0, 1, 2, "", "True", b"", (), (True,), [], {}, Ratio(0), Ratio(1), OTHER)
FAR = 10 ** 299


class Stories:
    """All stories of a claim, each by the keys of the rows that are marked now."""

    def __init__(self, most, keys, least):
        every = product((False, True), repeat=len(keys))
        self.stories = {
            frozenset(key for key, mark in zip(keys, marks) if mark) for marks in every if least <= sum(marks) <= most
        }
        self.rows = set(keys)
        self.told = {}

    def put(self, key):
        self.rows.add(key)
        self.stories |= {story | {key} for story in self.stories}

    def drop(self, key):
        self.rows.discard(key)
        self.told.pop(key, None)
        self.stories = {story - {key} for story in self.stories}

    def change(self, key, marked):
        self.told[key] = marked
        self.stories = {story | {key} if marked else story - {key} for story in self.stories}

    def learn(self, key, marked):
        self.told[key] = marked
        self.stories = {story for story in self.stories if (key in story) == marked}

    def told_now(self):
        many = [len(story) for story in self.stories]
        return len(self.rows), not many, max(many, default=None), min(many, default=None)


def told_by(carry):
    return carry.size, carry.refuted, carry.most_now, carry.least_now


class StoriesTest(ProgramTest):
    def step(self, source, carry, stories, keys):
        key, marked = source.choice(keys), source.random() < 0.5
        kind = source.choice(("put", "drop", "change", "learn", "learn", "learn"))
        more = {"key": key} if kind in ("put", "drop") else {"key": key, "marked": marked}
        args = ()
        if source.random() < 0.5:
            args, more = tuple(more.values()), {}
        call = getattr(carry, kind)
        if kind == "put" and key in stories.rows:
            self.assert_error(KnownRow, {"key": key}, call, *args, **more)
        elif kind != "put" and key not in stories.rows:
            self.assert_error(UnknownRow, {"key": key}, call, *args, **more)
        elif kind == "learn" and stories.told.get(key, marked) is not marked:
            self.assert_error(Contradiction, {"key": key}, call, *args, **more)
        else:
            self.assertIs(call(*args, **more), None)
            getattr(stories, kind)(*((key,) if kind in ("put", "drop") else (key, marked)))
        self.assert_same(told_by(carry), stories.told_now())

    def test_drawn_orders(self):
        source = random.Random(1)
        refuted = 0
        for _ in range(1500):
            keys = source.sample((0, 3, 5, 8, 10 ** 9), 4)
            then = keys[:source.randint(0, 4)]
            source.shuffle(keys)
            most, least = source.randint(-1, 5), source.choice((-1, 0, 0, 1, 2, 3, 5))
            carry, stories = Carry(most, *then, least=least), Stories(most, then, least)
            self.assert_same(told_by(carry), stories.told_now())
            for _ in range(source.randint(0, 14)):
                self.step(source, carry, stories, keys)
            refuted += carry.refuted
        self.assertTrue(200 < refuted < 1300)

    def test_two_carries_in_turn(self):
        source = random.Random(2)
        pairs = [(Carry(2, 1, 2, 3, least=1), Stories(2, (1, 2, 3), 1)), (Carry(1, 3, 4), Stories(1, (3, 4), 0))]
        for _ in range(200):
            carry, stories = source.choice(pairs)
            self.step(source, carry, stories, (1, 2, 3, 4))
            for carry, stories in pairs:
                self.assert_same(told_by(carry), stories.told_now())


class CarryTest(ProgramTest):
    def test_first(self):
        for most, keys, least, wanted in (
            (0, (), 0, (0, False, 0, 0)), (5, (), 0, (0, False, 0, 0)), (-1, (), 0, (0, True, None, None)),
            (0, (), 1, (0, True, None, None)), (0, (), -5, (0, False, 0, 0)), (1, (7, 3), 0, (2, False, 1, 0)),
            (9, (7, 3), 0, (2, False, 2, 0)), (1, (7, 3), 1, (2, False, 1, 1)), (1, (7, 3), 2, (2, True, None, None)),
            (9, (7, 3), 3, (2, True, None, None)), (FAR, (0, 10 ** 9), -FAR, (2, False, 2, 0)),
            (FAR, (1,), FAR, (1, True, None, None)), (-FAR, (1,), -FAR, (1, True, None, None)), (2, (7, 3), 2, (2, False, 2, 2)),
        ):
            self.assert_same(told_by(Carry(most, *keys, least=least)), wanted)
            if not keys:
                self.assert_same(told_by(Carry(least=least, most=most)), wanted)
            if least == 0:
                self.assert_same(told_by(Carry(most, *keys)), wanted)

    def test_many_rows(self):
        carry = Carry(400, *range(1000), least=300)
        for key in range(500):
            carry.drop(key)
        self.assert_same(told_by(carry), (500, False, 400, 0))
        for key in range(500, 750):
            carry.learn(key, key % 2 == 0)
        self.assert_same(told_by(carry), (500, False, 375, 125))
        for key in range(750, 1000):
            carry.change(key, False)
        self.assert_same(told_by(carry), (500, False, 125, 125))
        for key in range(300):
            carry.put(key)
        self.assert_same(told_by(carry), (800, False, 425, 125))

    def test_key_of_a_dropped_row(self):
        carry = Carry(1, 4, 5)
        carry.learn(4, True)
        carry.drop(4)
        carry.put(4)
        self.assert_same(told_by(carry), (2, False, 1, 0))
        carry.learn(4, False)
        self.assert_same(told_by(carry), (2, False, 0, 0))
        carry.learn(5, True)
        self.assert_same(told_by(carry), (2, True, None, None))

    def test_what_follows_makes_no_contradiction(self):
        carry = Carry(0, 1, 2)
        carry.learn(1, True)
        self.assert_same(told_by(carry), (2, True, None, None))
        carry.learn(1, True)
        carry.drop(1)
        carry.change(2, True)
        carry.put(1)
        self.assert_same(told_by(carry), (2, True, None, None))

    def test_contradictions(self):
        carry = Carry(2, 1, 2, 3)
        carry.learn(1, True)
        carry.change(2, False)
        carry.put(9)
        carry.learn(9, False)
        before = told_by(carry)
        for key, marked in ((1, False), (2, True), (9, True)):
            self.assert_error(Contradiction, {"key": key}, carry.learn, key, marked)
            self.assert_error(Contradiction, {"key": key}, carry.learn, marked=marked, key=key)
            self.assert_same(told_by(carry), before)
            carry.learn(key, not marked)
            self.assert_same(told_by(carry), before)
        carry.change(1, False)
        self.assert_error(Contradiction, {"key": 1}, carry.learn, 1, True)
        carry.change(9, True)
        carry.learn(9, True)
        self.assert_same(told_by(carry), (4, False, 2, 1))

    def test_change_keeps_what_was_learnt(self):
        carry = Carry(1, 1, 2)
        carry.learn(1, True)
        carry.change(1, False)
        self.assert_same(told_by(carry), (2, False, 0, 0))
        carry = Carry(1, 1, 2)
        carry.change(1, True)
        carry.learn(1, True)
        self.assert_same(told_by(carry), (2, False, 2, 1))

    def test_errors_of_making(self):
        for wrong in NO_INTEGERS:
            self.assert_error(InvalidNumber, {"number": wrong}, Carry, wrong, None, least=None)
            self.assert_error(InvalidNumber, {"number": wrong}, Carry, least=None, most=wrong)
            self.assert_error(InvalidNumber, {"number": wrong}, Carry, 1, 2, 3, least=wrong)
        for wrong in NO_KEYS:
            self.assert_error(InvalidKeys, {"index": 0}, Carry, 1, wrong, least=None)
            self.assert_error(InvalidKeys, {"index": 2}, Carry, 1, 5, 1, wrong, 5, least=None)
        self.assert_error(InvalidKeys, {"index": 2}, Carry, 1, 5, 1, 5, None)
        self.assert_error(InvalidKeys, {"index": 1}, Carry, 1, 0, 0)
        self.assert_same(Carry(1, 1, 0, 10 ** 9).size, 3)

    def test_errors_of_steps(self):
        carry = Carry(1, 4, 5)
        carry.change(5, True)
        before = told_by(carry)
        steps = ((carry.put, ()), (carry.drop, ()), (carry.change, (None,)), (carry.learn, (None,)))
        for call, more in steps:
            for wrong in NO_KEYS:
                self.assert_error(InvalidNumber, {"number": wrong}, call, wrong, *more)
            if call != carry.put:
                self.assert_error(UnknownRow, {"key": 6}, call, 6, *more)
        self.assert_error(KnownRow, {"key": 4}, carry.put, 4)
        self.assert_error(KnownRow, {"key": 5}, carry.put, key=5)
        for wrong in NO_MARKS:
            for key in (4, 5):
                self.assert_error(InvalidMarked, {"value": wrong}, carry.change, key, wrong)
                self.assert_error(InvalidMarked, {"value": wrong}, carry.learn, marked=wrong, key=key)
        self.assert_same(told_by(carry), before)

    def test_truth_and_equality(self):
        carry = Carry(-1)
        self.assertTrue(carry)
        self.assert_same((carry == carry, carry != carry, carry == Carry(-1), carry != Carry(-1)), (True, False, False, True))
        for value in NO_INTEGERS:
            self.assert_same((carry == value, carry != value), (False, True))
