from drawclaims import limits
from tests.helpers import ProgramTest


class LimitsTest(ProgramTest):
    def test_each_limit(self):
        self.assert_same(limits.LONGEST, 20)
        self.assert_same(limits.CLASSES, 8)
        self.assert_same(limits.BOTTOM, 24)
        self.assert_same(limits.OFFSET, 1000)
        self.assert_same(limits.FROM, int("1" + "0" * 30))
        self.assert_same(limits.SIZE, int("1" + "0" * 150))
        self.assert_same(limits.MODULUS, 5040)
