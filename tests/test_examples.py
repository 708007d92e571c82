"""The examples of the document, word for word."""

import unittest

from tests.examples import outcome

EXAMPLES = {
    "ratios": (
        """
>>> from drawclaims.ratios import Ratio, is_share
>>> [str(1 - Ratio(1, 4) * 2), Ratio(2, 4) == Ratio(1, 2), 3 > Ratio(7, 2), Ratio(-7, 2).floor, repr(Ratio.read("3/2")), is_share(Ratio(1)), is_share(0)]
['1/2', True, False, -4, 'Ratio(3, 2)', False, False]
""",
    ),
    "lines": (
        """
>>> from drawclaims.lines import Line
>>> from drawclaims.ratios import Ratio
>>> a, b = Line(a=Ratio(1, 2)), Line(4, b=1)
>>> [str(3 - (a + b) * 2), a <= 1 + a, a < Line(a=1), Line(1, a=1) > a, str(a.at(a=7, c=1)), Line(2, a=0).names, 0 <= a]
['-1 a + -2 b + -5', True, False, True, '7/2', (), True]
""",
    ),
    "plans": (
        """
>>> from drawclaims.plans import Plan
>>> plan = Plan.fixed(3, 0, 1)
>>> [str(plan), plan((0, 1, 1)), str(plan.curtailed()), plan.curtailed()((1, 1, 0)), str(Plan.looks((2, 0), (4, 1)))]
['- -- --- 0122', (2, 3), '- -- --2 012.', (2, 2), '- -- 0-- .--- .0111']
""",
        """
>>> from drawclaims.plans import Plan
>>> plan = Plan("-", "--", "0--", ".011")
>>> [plan.leads(1, 0), plan.settles(1, 0), plan.settles(1, 1), plan.ways(3, 2), str(plan.flipped())]
[(0, 1), (1, 2), (2, 2), 3, '- -- --1 001.']
""",
        """
>>> from drawclaims.plans import Plan
>>> Plan("-", "0-", ".10")
raises NotRising(marks=(1, 0), place=1)
""",
    ),
    "comparing": (
        """
>>> from drawclaims.comparing import parting_marks, same_classes
>>> from drawclaims.plans import Plan
>>> [same_classes(Plan.fixed(3, 0), Plan.fixed(3, 0).curtailed()), parting_marks(Plan.fixed(2, 0), Plan.fixed(3, 1))]
[True, (0, 1, 0)]
""",
    ),
    "counting": (
        """
>>> from drawclaims.counting import class_counts, draws, mean_looked
>>> from drawclaims.plans import Plan
>>> plan = Plan.fixed(2, 0)
>>> [draws(plan, 5), class_counts(plan, 5, 2), str(mean_looked(plan.curtailed(), 5, 2)), class_counts(plan, 10 ** 9, 1)[1]]
[20, (6, 14), '8/5', 1999999998]
""",
    ),
    "series": (
        """
>>> from drawclaims.series import ladder_of, runs_of, value_at
>>> [value_at((4, 0, -2), 10), runs_of((4, 0, -2)), ladder_of((4, 0, -2)), ladder_of((0, 0)), runs_of((-3, -3, -3))]
[54, ((0, 1), (2, -1), (4, 1)), (((0, 1),), ((0, -1), (2, 1)), ((0, 1), (2, -1), (4, 1))), (((0, 1),),), ((0, -1),)]
""",
    ),
    "sizes": (
        """
>>> from drawclaims.sizes import Sizes
>>> some = Sizes.rests(2, 0) & Sizes.span(3, 9) | Sizes.span(20)
>>> [some.modulus, some.ranges, some.whole_from, 8 in some, 9 in some, some.after(9), list(some.members(5, 3)), some - Sizes.rests(2, 1) <= Sizes.rests(2, 0)]
[2, (((4, 8), (20, None)), ((21, None),)), 20, True, False, 20, [6, 8, 20], True]
""",
    ),
    "holding": (
        """
>>> from drawclaims.claims import Claims
>>> from drawclaims.holding import failing, holds_always, sizes_where, worst
>>> from drawclaims.plans import Plan
>>> from drawclaims.ratios import Ratio
>>> half = Claims(Plan.fixed(2, 0), 2, (1, 0))
>>> [half.bound(0, 7), half.wrong(7, 4), str(worst(half, 7)[0]), worst(half, 7)[1], sizes_where(half, Ratio(1, 5)).ranges, failing(half, Ratio(1, 5)), holds_always(half, Ratio(1, 4))]
[3, 6, '1/7', 4, (((2, 24),), ((3, 15),)), (17, 9), True]
""",
    ),
    "greatest": (
        """
>>> from drawclaims.claims import Claims
>>> from drawclaims.greatest import greatest_share, limit_share
>>> from drawclaims.plans import Plan
>>> half, certain = Claims(Plan.fixed(2, 0), 2, (1, 0)), Claims(Plan.fixed(2, 0, 1), 1, (1, -2), (1, -1))
>>> [str(limit_share(half, 0)), repr(greatest_share(half)), repr(greatest_share(certain)), repr(greatest_share(Claims(Plan.fixed(1, 0), 1, (0, 1))))]
['1/4', '(Ratio(1, 4), None, None)', '(Ratio(0, 1), 2, 0)', '(Ratio(1, 1), None, None)']
""",
    ),
    "least": (
        """
>>> from drawclaims.least import least_bounds, least_look, least_offsets, least_slopes, next_look
>>> from drawclaims.plans import Plan
>>> from drawclaims.ratios import Ratio
>>> plan, fifth = Plan.fixed(2, 0), Ratio(1, 5)
>>> [least_bounds(plan, fifth, 10), least_slopes(plan, fifth, 10), least_offsets(plan, fifth, 10, 6), least_look(fifth, 2, 1), next_look(Ratio(1, 3), 2, 1, (2, 0), allowed=1)]
[(5,), (6,), (-8,), 3, 5]
""",
    ),
    "ranges": (
        """
>>> from drawclaims.claims import Claims
>>> from drawclaims.plans import Plan
>>> from drawclaims.ranges import TwoSided
>>> plan = Plan.fixed(2, 0)
>>> two = TwoSided(Claims(plan, 2, (1, 0)), Claims(plan.flipped(), 2, (1, 0)))
>>> [str(plan.flipped()), two.interval(0, 10), two.interval(1, 10), str(two.wrong_share(5, 3)), str(two.most_share())]
['- -- 001', (0, 5), (5, 10), '1/10', '1']
""",
    ),
    "tables": (
        """
>>> from drawclaims.plans import Plan
>>> from drawclaims.tables import Table, Watch
>>> table = Table()
>>> table.put(7, 30, marked=True)
>>> table.put(8, 10)
>>> table.put(9, 20, False)
>>> watch = Watch(table, Plan.fixed(2, 0))
>>> first = watch.run()
>>> table.change(9, True)
>>> second, reads = watch.run(), watch.reads
>>> table.drop(8)
>>> [list(table.order()), first, second, reads, watch.known(), watch.run(), watch.reads, table.marked]
[[9, 7], (0, 2), (1, 2), 3, ((9, True),), (1, 2), 4, 2]
""",
    ),
    "carrying": (
        """
>>> from drawclaims.carrying import Carry
>>> carry = Carry(1, 4, 5, 6)
>>> carry.learn(4, False)
>>> carry.drop(5)
>>> carry.put(9)
>>> before = (carry.size, carry.least_now, carry.most_now)
>>> carry.change(6, True)
>>> [before, (carry.least_now, carry.most_now), carry.refuted]
[(3, 0, 2), (1, 2), False]
""",
    ),
    "samples": (
        """
>>> from drawclaims.ratios import Ratio
>>> from drawclaims.samples import Book, Sample
>>> both = Sample((1, True), (2, False)) | Sample((2, False), (5, True))
>>> book = Book(Ratio(1, 4), 2, 2)
>>> [both.size, both.marked, 5 in both, book.slopes, book.bound(Sample((1, False), (2, False)), 9), book.bound(Sample((1, True)), 9)]
[3, 2, True, ((2,), (1, 2)), 4, 9]
""",
    ),
    "layers": (
        """
>>> from drawclaims.claims import Claims
>>> from drawclaims.layers import Layers, partners
>>> from drawclaims.plans import Plan
>>> half = Claims(Plan.fixed(2, 0), 2, (1, 0))
>>> layers = Layers(half, half)
>>> [partners((3, 4, 3), (3, 3, 5)), str(layers((0, 1))), str(layers((0, 0, 9))), str(layers.most_share())]
[(2, 0, 2), '3/2 rows', '1 rows', '1/2']
""",
    ),
    "surveys": (
        """
>>> from drawclaims.claims import Claims
>>> from drawclaims.plans import Plan
>>> from drawclaims.surveys import Survey
>>> half = Claims(Plan.fixed(2, 0), 2, (1, 0))
>>> survey = Survey(a=half, b=half)
>>> [str(survey.greatest()), str(survey.line(a=0, b=1)), str(survey.wrong_share(a=(7, 4), b=(5, 3)))]
['7/16', '1/2 a + 1 b', '8/35']
""",
    ),
    "desks": (
        """
>>> from drawclaims.claims import Claims
>>> from drawclaims.desks import Desk
>>> from drawclaims.plans import Plan
>>> from drawclaims.ratios import Ratio
>>> half = Claims(Plan.fixed(2, 0), 2, (1, 0))
>>> desk = Desk(Ratio(1, 2))
>>> shares = desk.do_all(("put", "a", half), ("put", "b", half), ("limit", Ratio(7, 16)))
>>> desk.undo()
>>> [repr(shares), str(desk.limit), str(desk.drop("a")), len(desk.history), desk.names]
['(Ratio(1, 4), Ratio(7, 16), Ratio(7, 16))', '1/2', '1/4', 3, ('b',)]
""",
        """
>>> from drawclaims.claims import Claims
>>> from drawclaims.desks import Desk
>>> from drawclaims.plans import Plan
>>> from drawclaims.ratios import Ratio
>>> Desk(Ratio(1, 5)).put("a", Claims(Plan.fixed(2, 0), 2, (1, 0)))
raises NotHeld
""",
    ),
    "certificates": (
        """
>>> from drawclaims.certificates import certify_comparison, certify_holding
>>> from drawclaims.checker import accepts
>>> from drawclaims.claims import Claims
>>> from drawclaims.plans import Plan
>>> from drawclaims.ratios import Ratio
>>> half = Claims(Plan.fixed(2, 0), 2, (1, 0))
>>> claim, certificate = certify_holding(half, Ratio(1, 4))
>>> [claim[:2], certificate, accepts(claim, certificate), certify_holding(half, Ratio(1, 5))[0][5:], certify_comparison(Plan.fixed(2, 0), Plan.fixed(2, 1))[1]]
[('always', ('-', '--', '011')), (((((0, 1),), ((0, 1),)), (((0, 1),), ((0, 1),))),), True, (17, 9), (0, 1)]
""",
    ),
    "console": (
        """
>>> from drawclaims.console import Console
>>> console = Console()
>>> [console.say("use 2 1 0; - -- 011"), console.say("count 5 2"), console.say("worst 7"), console.say("where 1/5"), console.say("greatest"), console.say("bounds 1/5 10")]
['ok', '6 14', '1/7 4', '2-24; 3-15', '1/4 not reached', '5']
""",
    ),
}


class ExamplesTest(unittest.TestCase):
    def test_examples(self):
        for module, texts in EXAMPLES.items():
            for text in texts:
                with self.subTest(module):
                    found, wanted = outcome(text)
                    self.assertEqual(found, wanted)

    def test_number_of_examples(self):
        self.assertEqual({module: len(texts) for module, texts in EXAMPLES.items()},
                         {"ratios": 1, "lines": 1, "plans": 3, "comparing": 1, "counting": 1,
                          "series": 1, "sizes": 1, "holding": 1, "greatest": 1, "least": 1, "ranges": 1, "tables": 1,
                          "carrying": 1, "samples": 1, "layers": 1, "surveys": 1, "desks": 2, "certificates": 1, "console": 1})
