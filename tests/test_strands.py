"""Strands are no part of the interface, but what holding, greatest and least say rests on them (point 18)."""

from drawclaims.counting import draws, up_to
from drawclaims.plans import Plan
from drawclaims.series import runs_of, value_at
from drawclaims.strands import strands_of
from tests.claims_reference import bound, random_claims, some_claims
from tests.helpers import ProgramTest


class StrandsTest(ProgramTest):
    def some_strands(self):
        for claims in some_claims() + random_claims(1, 40, 5, offsets=40):
            for start in (claims.plan.longest, claims.plan.longest + 9, 100):
                for number, line in enumerate(claims.lines):
                    strands = strands_of(claims.plan, number, claims.bottom, line, start)
                    self.assert_same([strand.rest for strand in strands], list(range(claims.bottom)))
                    for strand in strands:
                        yield claims, number, start, strand

    def first(self, claims, number, strand, least, holds):
        """The least t of a few at which the size is at least this one, and something holds of size and bound."""
        for t in range(200):
            size = claims.bottom * t + strand.rest
            if size >= least and holds(size, bound(claims, number, size)):
                return t
        return None

    def test_where_they_begin(self):
        found = set()
        for claims, number, start, strand in self.some_strands():
            first = self.first(claims, number, strand, start, lambda size, most: True)
            below = self.first(claims, number, strand, start, lambda size, most: most < size)
            sound = self.first(claims, number, strand, start, lambda size, most: -1 <= most < size)
            self.assert_same((strand.first, strand.below, strand.sound), (first, below, sound))
            found.add((first == below, below == sound, below is None, sound is None))
        self.assert_same(found, {
            (True, True, False, False), (False, True, True, True), (False, True, False, False),
            (True, False, False, True), (True, False, False, False),
        })

    def test_sizes_and_draws(self):
        for claims, number, start, strand in self.some_strands():
            for t in (strand.first, strand.first + 3, 10 ** 30):
                size = claims.bottom * t + strand.rest
                self.assert_same((strand.size_of(t), strand.bound_of(t)), (size, bound(claims, number, size)))
                self.assert_same(strand.all_of(t), draws(claims.plan, size))
                if 0 <= strand.bound_of(t) + 1 <= size:
                    self.assert_same(strand.wrong_of(t), up_to(claims.plan, number, size, strand.bound_of(t) + 1))

    def test_series(self):
        for claims, number, start, strand in list(self.some_strands())[::7]:
            if strand.sound is not None:
                series = strand.series_from(strand.sound, 2, 7)
                self.assertEqual(len(series), claims.plan.longest + 1)
                for place in (0, 1, claims.plan.longest, claims.plan.longest + 1, 50):
                    t = strand.sound + place
                    self.assert_same(value_at(series, place), 2 * strand.all_of(t) - 7 * strand.wrong_of(t))

    def test_steps(self):
        for claims, number, start, strand in list(self.some_strands())[::7]:
            if strand.sound is not None:
                steps = tuple(strand.steps_from(strand.sound))
                if len(steps) > 21:
                    continue
                sign, runs = None, dict(runs_of(steps))
                for place in range(60):
                    t = strand.sound + place
                    sign = runs.get(place, sign)
                    step = strand.wrong_of(t + 1) * strand.all_of(t) - strand.wrong_of(t) * strand.all_of(t + 1)
                    self.assertEqual(sign, 1 if step >= 0 else -1)

    def test_one_row(self):
        strands = strands_of(Plan.fixed(1, 0), 0, 3, (2, 10), 1)
        self.assert_same([(each.first, each.below, each.sound) for each in strands], [(1, 4, 4), (0, 4, 4), (0, 3, 3)])
        strands = strands_of(Plan.fixed(1, 0), 0, 2, (1, -7), 1)
        self.assert_same([(each.first, each.below, each.sound) for each in strands], [(1, 1, 3), (0, 0, 2)])
