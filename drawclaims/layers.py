"""Claims of levels: what they tell of a sum of values, and the numbers of equal keys."""

from drawclaims.checks import check_keys
from drawclaims.errors import InvalidLayers, InvalidMarks
from drawclaims.claims import Claims
from drawclaims.greatest import sum_of_greatest
from drawclaims.kinds import is_integer
from drawclaims.lines import Line

_MOST_LEVELS = 8
_NAME = "rows"


class Layers:
    """The claims of the levels 1, 2, .., in which the rows with at least this value are the marked ones."""

    def __init__(self, *parts):
        _check_parts(parts)
        self.levels = len(parts)
        self.longest = max([int(claims.plan.longest) for claims in parts])
        self._parts = parts

    def __call__(self, values):
        _check_values(values)
        total = Line()
        for at, claims in enumerate(self._parts):
            total = total + _line_for(claims, at + 1, values)
        return total

    def most_share(self, *, from_size=1):
        """The sum of the greatest shares of the levels, 1 if it is greater."""
        return sum_of_greatest(self._parts, from_size)


def partners(left, right):
    """For each item of the left tuple, how many items of the right one are equal to it."""
    check_keys(left)
    check_keys(right)
    counts = {}
    for key in right:
        counts[key] = counts.get(key, 0) + 1
    return tuple([counts.get(key, 0) for key in left])


def _check_parts(parts):
    if not 1 <= len(parts) <= _MOST_LEVELS:
        raise InvalidLayers(None)
    for at, part in enumerate(parts):
        if not isinstance(part, Claims):
            raise InvalidLayers(at)


def _check_values(values):
    if not isinstance(values, tuple):
        raise InvalidMarks(None)
    for at, value in enumerate(values):
        if not is_integer(value) or value < 0:
            raise InvalidMarks(at)


def _line_for(claims, level, values):
    """The line of the class that comes if the rows with at least this value are the marked ones."""
    marks = tuple([1 if value >= level else 0 for value in values])
    plan = claims.plan
    number, _ = plan(marks)
    return claims.line(number, _NAME)
