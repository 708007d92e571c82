"""Claims: a plan, and for each class a bound for the marked rows that depends on the size of the table."""

from drawclaims.checks import check_bottom, check_name, check_number, check_plan, check_size
from drawclaims.counting import class_counts, draws
from drawclaims.errors import InvalidLines, NotClaims
from drawclaims.kinds import is_integer_within
from drawclaims.limits import OFFSET
from drawclaims.lines import Line
from drawclaims.ratios import Ratio


class Claims:
    """A plan, a bottom, and a line (slope, offset) for each class but the last one."""

    def __init__(self, plan, bottom, *lines):
        check_plan(plan)
        check_bottom(bottom)
        _check_lines(lines, plan, bottom)
        self.plan = plan
        self.bottom = bottom
        self.lines = lines

    def bound(self, number, size):
        """The bound of a class at a size."""
        check_number(self.plan, number)
        check_size(self.plan, size)
        return _bound_of(self, number, size)

    def line(self, number, name):
        """The Line with this name for the size whose value, rounded down, is the bound of a class."""
        check_number(self.plan, number)
        check_name(name)
        if number == self.plan.classes - 1:
            whole = {name: 1}
            return Line(0, **whole)
        slope, offset = self.lines[number]
        start = Ratio(offset, self.bottom)
        slopes = {name: Ratio(slope, self.bottom)}
        return Line(start, **slopes)

    def wrong(self, size, marked):
        """The number of wrong draws."""
        counts = class_counts(self.plan, size, marked)
        return sum([count for number, count in enumerate(counts) if _bound_of(self, number, size) < marked])

    def wrong_share(self, size, marked):
        """The number of wrong draws divided by that of all draws."""
        return Ratio(self.wrong(size, marked), draws(self.plan, size))

    def __eq__(self, other):
        return (
            isinstance(other, Claims)
            and self.plan == other.plan and self.bottom == other.bottom and self.lines == other.lines
        )

    def __repr__(self):
        return f"Claims({self.plan.longest}, {self.plan.classes})"


def check_claims(value):
    """Raises NotClaims if a value is not a Claims object."""
    if not isinstance(value, Claims):
        raise NotClaims(value)


def _bound_of(claims, number, size):
    if number == claims.plan.classes - 1:
        return size
    slope, offset = claims.lines[number]
    return (slope * size + offset) // claims.bottom


def _check_lines(lines, plan, bottom):
    if len(lines) != plan.classes - 1:
        raise InvalidLines(None)
    for at, line in enumerate(lines):
        if not _is_line(line, bottom):
            raise InvalidLines(at)
        if at > 0 and not _rises(lines[at - 1], line, plan.longest):
            raise InvalidLines(at)


def _is_line(line, bottom):
    if not isinstance(line, tuple) or len(line) != 2:
        return False
    slope, offset = line
    return is_integer_within(slope, 0, bottom) and is_integer_within(offset, -OFFSET, OFFSET)


def _rises(before, line, longest):
    if before[0] > line[0]:
        return False
    return before[0] * longest + before[1] <= line[0] * longest + line[1]
