"""Plans of two shapes: a fixed number of rows, and a few looks at which the plan may stop."""

from drawclaims.errors import InvalidLimits, InvalidLooks
from drawclaims.kinds import first_not_ascending, is_integer_within
from drawclaims.limits import CLASSES, LONGEST
from drawclaims.rows import GO_ON, rows_by


def check_limits(limits, looked):
    """Raises InvalidLimits if there are not 1 to 7 ascending limits from 0 to looked - 1."""
    if not 1 <= len(limits) <= CLASSES - 1:
        raise InvalidLimits(None)
    at = first_not_ascending(limits, 0, looked - 1)
    if at is not None:
        raise InvalidLimits(at)


def check_looks(pairs):
    """Raises InvalidLooks if there are no pairs, or they are not pairs (rows, allowed) with ascending rows."""
    if not pairs:
        raise InvalidLooks(None)
    before = 0
    for at, pair in enumerate(pairs):
        if not _is_look(pair, before + 1):
            raise InvalidLooks(at)
        before = pair[0]


def fixed_rows(looked, limits):
    """The rows of the plan that looks at so many rows; the class is the number of limits below the marked rows."""

    def letter_at(m, k):
        return GO_ON if m < looked else str(len([limit for limit in limits if limit < k]))

    return rows_by(letter_at, looked)


def looks_rows(pairs):
    """The rows of the plan that stops at the first look with at most the allowed number of marked rows."""
    allowed = {looked: most for looked, most in pairs}
    last = pairs[-1][0]

    def letter_at(m, k):
        if m in allowed and k <= allowed[m]:
            return "0"
        return "1" if m == last else GO_ON

    return rows_by(letter_at, last)


def _is_look(pair, least):
    if not isinstance(pair, tuple) or len(pair) != 2:
        return False
    looked, allowed = pair
    return is_integer_within(looked, least, LONGEST) and is_integer_within(allowed, 0, looked - 1)
