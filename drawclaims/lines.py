"""Sums of an offset and of slopes times the sizes of tables."""

from drawclaims.checks import check_name
from drawclaims.errors import InvalidNumber, InvalidRatio, UnknownName
from drawclaims.kinds import is_integer
from drawclaims.ratios import Ratio, as_ratio, is_number


class Line:
    """An offset, and for each name a slope times the size of the table with this name."""

    def __init__(self, the_offset=0, **slopes):
        if not is_number(the_offset):
            raise InvalidRatio(the_offset)
        given = sorted([str(word) for word in slopes])
        for name in given:
            check_name(name)
            if not is_number(slopes[name]):
                raise InvalidRatio(slopes[name])
        self.offset = as_ratio(the_offset)
        self.names = tuple([word for word in given if slopes[word] != 0])
        self._slopes = {word: as_ratio(slopes[word]) for word in self.names}

    def slope_of(self, name):
        """The slope of this name, 0 for a name that the line does not have."""
        check_name(name)
        return self._slopes[name] if name in self._slopes else Ratio(0)

    def at(self, **sizes):
        """The value for these sizes."""
        for name in sorted([str(word) for word in sizes]):
            check_name(name)
            if not is_integer(sizes[name]) or sizes[name] < 0:
                raise InvalidNumber(sizes[name])
        value = self.offset
        for name in self.names:
            if name not in sizes:
                raise UnknownName(name)
            value = value + self._slopes[name] * sizes[name]
        return value

    def __add__(self, other):
        if not _is_term(other):
            return NotImplemented
        return _sum_of(self, _as_line(other), 1)

    def __radd__(self, other):
        if not _is_term(other):
            return NotImplemented
        return _sum_of(_as_line(other), self, 1)

    def __sub__(self, other):
        if not _is_term(other):
            return NotImplemented
        return _sum_of(self, _as_line(other), -1)

    def __rsub__(self, other):
        if not _is_term(other):
            return NotImplemented
        return _sum_of(_as_line(other), self, -1)

    def __mul__(self, other):
        if not is_number(other):
            return NotImplemented
        return _sum_of(Line(), self, other)

    def __rmul__(self, other):
        if not is_number(other):
            return NotImplemented
        return _sum_of(Line(), self, other)

    def __neg__(self):
        return _sum_of(Line(), self, -1)

    def __lt__(self, other):
        if not _is_term(other):
            return NotImplemented
        return _is_below(self, _as_line(other))

    def __le__(self, other):
        if not _is_term(other):
            return NotImplemented
        return _is_at_most(self, _as_line(other))

    def __gt__(self, other):
        if not _is_term(other):
            return NotImplemented
        return _is_below(_as_line(other), self)

    def __ge__(self, other):
        if not _is_term(other):
            return NotImplemented
        return _is_at_most(_as_line(other), self)

    def __eq__(self, other):
        return isinstance(other, Line) and self.offset == other.offset and self._slopes == other._slopes

    def __str__(self):
        parts = [f"{self.slope_of(name)} {name}" for name in self.names]
        if self.offset != 0 or not self.names:
            parts.append(str(self.offset))
        return " + ".join(parts)

    def __repr__(self):
        return f"Line({len(self.names)})"


def _is_term(value):
    return isinstance(value, Line) or is_number(value)


def _as_line(term):
    return term if isinstance(term, Line) else Line(term)


def _sum_of(left, right, times):
    """The left line and so many times the right one."""
    offset = left.offset + right.offset * times
    slopes = {name: left.slope_of(name) + right.slope_of(name) * times for name in left.names + right.names}
    return Line(offset, **slopes)


def _is_at_most(left, right):
    # Sizes are from 0 on and without end: at 0 the offsets alone count, far out a slope below 0 always shows.
    gap = _sum_of(right, left, -1)
    return gap.offset >= 0 and all([gap.slope_of(name) > 0 for name in gap.names])


def _is_below(left, right):
    gap = _sum_of(right, left, -1)
    return gap.offset > 0 and all([gap.slope_of(name) > 0 for name in gap.names])
