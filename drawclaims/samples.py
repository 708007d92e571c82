"""Samples of a table, and the claims of a book for them."""

from drawclaims.checks import check_bottom, check_share
from drawclaims.errors import Contradiction, InvalidMarks, InvalidNumber, InvalidSize, NotASample, TooFew
from drawclaims.kinds import is_integer, is_integer_within, is_key
from drawclaims.least import least_slopes
from drawclaims.limits import SIZE
from drawclaims.plans import Plan

_GREATEST_LOOK = 7


class Sample:
    """Keys of rows, each with whether the row is marked."""

    def __init__(self, *pairs):
        _check_pairs(pairs)
        self.pairs = pairs
        self.size = len(pairs)
        self.marked = len([key for key, marked in pairs if marked])
        self._marks = {key: marked for key, marked in pairs}

    def __or__(self, other):
        if not isinstance(other, Sample):
            return NotImplemented
        return _joined(self, other)

    def __and__(self, other):
        if not isinstance(other, Sample):
            return NotImplemented
        return _common(self, other)

    def __contains__(self, x):
        return is_integer(x) and x in self._marks

    def __bool__(self):
        return bool(self.size > 0)

    def __eq__(self, other):
        return isinstance(other, Sample) and self.pairs == other.pairs


class Book:
    """For samples of each number of rows the least slopes with which the numbers of their marked rows bound a table."""

    def __init__(self, share, bottom, longest, *, from_size=1):
        check_share(share)
        check_bottom(bottom)
        if not is_integer_within(longest, 1, _GREATEST_LOOK):
            raise InvalidNumber(longest)
        self.longest = longest
        self.slopes = tuple([
            least_slopes(_counting_plan(looked), share, bottom, from_size=from_size)
            for looked in range(1, longest + 1)
        ])
        self._bottom = bottom

    def bound(self, sample, size):
        """The bound for the marked rows of a table of this size that has this sample."""
        if not isinstance(sample, Sample):
            raise NotASample(sample)
        if not is_integer_within(size, sample.size, SIZE):
            raise InvalidSize(size)
        if not 1 <= sample.size <= self.longest:
            raise TooFew(sample.size)
        if sample.marked == sample.size:
            return size
        return self.slopes[sample.size - 1][sample.marked] * size // self._bottom


def _check_pairs(pairs):
    before = -1
    for at, pair in enumerate(pairs):
        if not _is_pair(pair) or pair[0] <= before:
            raise InvalidMarks(at)
        before = pair[0]


def _is_pair(pair):
    if not isinstance(pair, tuple) or len(pair) != 2:
        return False
    return is_key(pair[0]) and isinstance(pair[1], bool)


def _counting_plan(looked):
    """The plan whose classes are the numbers of marked rows among so many."""
    limits = tuple([limit for limit in range(looked)])
    return Plan.fixed(looked, *limits)


def _joined(left, right):
    marks = {key: marked for key, marked in right.pairs}
    for key, marked in left.pairs:
        if key in right and marks[key] != marked:
            raise Contradiction(key)
    every = left.pairs + right.pairs
    marks = {key: marked for key, marked in every}
    keys = sorted([int(key) for key in marks])
    pairs = [(key, marks[key]) for key in keys]
    return Sample(*pairs)


def _common(left, right):
    marks = {key: marked for key, marked in right.pairs}
    pairs = [pair for pair in left.pairs if pair[0] in right and marks[pair[0]] == pair[1]]
    return Sample(*pairs)
