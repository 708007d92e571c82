"""Exact fractions, and the shares among them."""

from math import gcd

from drawclaims.errors import InvalidNumber, InvalidText
from drawclaims.kinds import is_integer, is_integer_text, is_whole_text

_SHARE_BOTTOM = 10 ** 9


def is_share(value):
    """Whether a value is a ratio from 0 on, less than 1, whose bottom is at most 10 ** 9."""
    return isinstance(value, Ratio) and 0 <= value.top < value.bottom <= _SHARE_BOTTOM


def is_number(value):
    """Whether a value is a ratio or an integer."""
    return isinstance(value, Ratio) or is_integer(value)


def as_ratio(number):
    """The ratio with the value of a ratio or an integer."""
    return number if isinstance(number, Ratio) else Ratio(number)


class Ratio:
    """The quotient of two integers, in lowest terms."""

    def __init__(self, top, bottom=1):
        if not is_integer(top):
            raise InvalidNumber(top)
        if not is_integer(bottom) or bottom < 1:
            raise InvalidNumber(bottom)
        common = gcd(top, bottom)
        self.top = top // common
        self.bottom = bottom // common
        self.floor = top // bottom

    @classmethod
    def read(cls, text):
        """The ratio with this text, written as str does."""
        if not isinstance(text, str) or not _is_ratio_text(text):
            raise InvalidText(text)
        top, _, bottom = text.partition("/")
        return cls(int(top), int(bottom) if bottom else 1)

    def __add__(self, other):
        if not is_number(other):
            return NotImplemented
        return _sum_of(self, other)

    def __radd__(self, other):
        if not is_number(other):
            return NotImplemented
        return _sum_of(self, other)

    def __sub__(self, other):
        if not is_number(other):
            return NotImplemented
        return Ratio(_lead(self, other), self.bottom * _bottom_of(other))

    def __rsub__(self, other):
        if not is_number(other):
            return NotImplemented
        return Ratio(-_lead(self, other), self.bottom * _bottom_of(other))

    def __mul__(self, other):
        if not is_number(other):
            return NotImplemented
        return _product_of(self, other)

    def __rmul__(self, other):
        if not is_number(other):
            return NotImplemented
        return _product_of(self, other)

    def __neg__(self):
        return Ratio(-self.top, self.bottom)

    def __lt__(self, other):
        if not is_number(other):
            return NotImplemented
        return _lead(self, other) < 0

    def __le__(self, other):
        if not is_number(other):
            return NotImplemented
        return _lead(self, other) <= 0

    def __gt__(self, other):
        if not is_number(other):
            return NotImplemented
        return _lead(self, other) > 0

    def __ge__(self, other):
        if not is_number(other):
            return NotImplemented
        return _lead(self, other) >= 0

    def __eq__(self, other):
        return is_number(other) and _lead(self, other) == 0

    def __ne__(self, other):
        return not self == other

    def __bool__(self):
        return bool(self.top != 0)

    def __str__(self):
        if self.bottom == 1:
            return str(self.top)
        return f"{self.top}/{self.bottom}"

    def __repr__(self):
        return f"Ratio({self.top}, {self.bottom})"


def _top_of(number):
    return number.top if isinstance(number, Ratio) else number


def _bottom_of(number):
    return number.bottom if isinstance(number, Ratio) else 1


def _sum_of(ratio, number):
    top = ratio.top * _bottom_of(number) + _top_of(number) * ratio.bottom
    return Ratio(top, ratio.bottom * _bottom_of(number))


def _product_of(ratio, number):
    return Ratio(ratio.top * _top_of(number), ratio.bottom * _bottom_of(number))


def _lead(ratio, number):
    """The top of the difference; it is below, at or above 0 as the difference is."""
    return ratio.top * _bottom_of(number) - _top_of(number) * ratio.bottom


def _is_ratio_text(text):
    top, slash, bottom = text.partition("/")
    if not is_integer_text(top):
        return False
    if not slash:
        return True
    return is_whole_text(bottom) and int(bottom) > 1 and gcd(int(top), int(bottom)) == 1
