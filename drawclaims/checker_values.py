"""What kind of value a part of a claim or of a certificate is; only the checker uses this."""

from drawclaims.limits import FROM

_SHARE_BOTTOM = 10 ** 9


def is_integer(value):
    """Whether a value is an integer; True and False are none."""
    return isinstance(value, int) and not isinstance(value, bool)


def is_whole(value, least, most):
    """Whether a value is an integer in this range."""
    return is_integer(value) and least <= value <= most


def is_tuple(value, many):
    """Whether a value is a tuple of so many items."""
    return isinstance(value, tuple) and len(value) == many


def is_part_pair(value):
    """Whether a value is the pair of a ratio from 0 to 1, without a common divisor."""
    if not is_tuple(value, 2):
        return False
    top, bottom = value
    if not is_integer(bottom) or bottom < 1 or not is_whole(top, 0, bottom):
        return False
    return _common_divisor(top, bottom) == 1


def is_share_pair(value):
    """Whether a value is the pair of a share."""
    return is_part_pair(value) and value[0] < value[1] <= _SHARE_BOTTOM


def is_from_size(value):
    """Whether a value is a size from which on tables may be asked for."""
    return is_whole(value, 1, FROM)


def are_marks(value, many):
    """Whether a value is a tuple of so many integers 0 and 1."""
    return is_tuple(value, many) and all([is_whole(mark, 0, 1) for mark in value])


def _common_divisor(left, right):
    while right > 0:
        left, right = right, left % right
    return left
