"""The examples of the document, word for word."""

import unittest

from tests.examples import outcome

EXAMPLES = {
    "ratios": (
        """
>>> from drawclaims.ratios import Ratio, is_share
>>> [str(1 - Ratio(1, 4) * 2), Ratio(2, 4) == Ratio(1, 2), 3 > Ratio(7, 2), Ratio(-7, 2).floor, repr(Ratio.read("3/2")), is_share(Ratio(1)), is_share(0)]
['1/2', True, False, -4, 'Ratio(3, 2)', False, False]
""",
    ),
    "lines": (
        """
>>> from drawclaims.lines import Line
>>> from drawclaims.ratios import Ratio
>>> a, b = Line(a=Ratio(1, 2)), Line(4, b=1)
>>> [str(3 - (a + b) * 2), a <= 1 + a, a < Line(a=1), Line(1, a=1) > a, str(a.at(a=7, c=1)), Line(2, a=0).names, 0 <= a]
['-1 a + -2 b + -5', True, False, True, '7/2', (), True]
""",
    ),
    "plans": (
        """
>>> from drawclaims.plans import Plan
>>> plan = Plan.fixed(3, 0, 1)
>>> [str(plan), plan((0, 1, 1)), str(plan.curtailed()), plan.curtailed()((1, 1, 0)), str(Plan.looks((2, 0), (4, 1)))]
['- -- --- 0122', (2, 3), '- -- --2 012.', (2, 2), '- -- 0-- .--- .0111']
""",
        """
>>> from drawclaims.plans import Plan
>>> plan = Plan("-", "--", "0--", ".011")
>>> [plan.leads(1, 0), plan.settles(1, 0), plan.settles(1, 1), plan.ways(3, 2), str(plan.flipped())]
[(0, 1), (1, 2), (2, 2), 3, '- -- --1 001.']
""",
        """
>>> from drawclaims.plans import Plan
>>> Plan("-", "0-", ".10")
raises NotRising(marks=(1, 0), place=1)
""",
    ),
    "comparing": (
        """
>>> from drawclaims.comparing import parting_marks, same_classes
>>> from drawclaims.plans import Plan
>>> [same_classes(Plan.fixed(3, 0), Plan.fixed(3, 0).curtailed()), parting_marks(Plan.fixed(2, 0), Plan.fixed(3, 1))]
[True, (0, 1, 0)]
""",
    ),
    "counting": (
        """
>>> from drawclaims.counting import class_counts, draws, mean_looked
>>> from drawclaims.plans import Plan
>>> plan = Plan.fixed(2, 0)
>>> [draws(plan, 5), class_counts(plan, 5, 2), str(mean_looked(plan.curtailed(), 5, 2)), class_counts(plan, 10 ** 9, 1)[1]]
[20, (6, 14), '8/5', 1999999998]
""",
    ),
}


class ExamplesTest(unittest.TestCase):
    def test_examples(self):
        for module, texts in EXAMPLES.items():
            for text in texts:
                with self.subTest(module):
                    found, wanted = outcome(text)
                    self.assertEqual(found, wanted)

    def test_number_of_examples(self):
        self.assertEqual({module: len(texts) for module, texts in EXAMPLES.items()},
                         {"ratios": 1, "lines": 1, "plans": 3, "comparing": 1, "counting": 1})
