import unittest

from tests.examples import outcome

RATIOS = """
>>> from drawclaims.ratios import Ratio, is_share
>>> [str(1 - Ratio(1, 4) * 2), Ratio(2, 4) == Ratio(1, 2), 3 > Ratio(7, 2), Ratio(-7, 2).floor, repr(Ratio.read("3/2")), is_share(Ratio(1)), is_share(0)]
['1/2', True, False, -4, 'Ratio(3, 2)', False, False]
"""


class ExamplesTest(unittest.TestCase):
    def check(self, text):
        found, wanted = outcome(text)
        self.assertEqual(found, wanted)

    def test_ratios(self):
        self.check(RATIOS)
