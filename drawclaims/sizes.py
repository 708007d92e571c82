"""Sets of sizes: for each rest finitely many ranges, of which the last one may be endless."""

from math import lcm

from drawclaims.errors import InvalidLimits, InvalidModulus, InvalidNumber, TooFine
from drawclaims.kinds import first_not_ascending, is_integer, is_integer_within
from drawclaims.limits import MODULUS
from drawclaims.turns import BOTH, EITHER, LEFT_ONLY, is_inside, joined_turns, member_from, turns_at

_MOST_MEMBERS = 1000


class Sizes:
    """A set of integers from 0 on; it is made of the turns of its members with each rest."""

    def __init__(self, modulus, turns):
        self.modulus = modulus
        self._turns = tuple([tuple(places) for places in turns])
        self.ranges = tuple([_ranges_of(places, modulus) for places in self._turns])
        self.whole_from = _whole_from(self._turns, modulus)

    @staticmethod
    def span(first, last=None):
        """The integers from the first to the last one, without end if it is None."""
        _check_from_zero(first)
        if last is None:
            return Sizes(1, [[first]])
        _check_from_zero(last)
        return Sizes(1, [[first, last + 1] if first <= last else []])

    @staticmethod
    def rests(modulus, *rests):
        """The integers from 0 on with these rests."""
        if not is_integer_within(modulus, 1, MODULUS):
            raise InvalidModulus(modulus)
        at = first_not_ascending(rests, 0, modulus - 1)
        if at is not None:
            raise InvalidLimits(at)
        known = set(rests)
        return Sizes(modulus, [[rest] if rest in known else [] for rest in range(modulus)])

    def after(self, first):
        """The least member from this integer on, None if there is none."""
        _check_from_zero(first)
        return min([int(place) for place in self._nexts(first)], default=None)

    def members(self, first, many):
        """Yields the members from this integer on, ascending, at most so many."""
        _check_from_zero(first)
        if not is_integer_within(many, 0, _MOST_MEMBERS):
            raise InvalidNumber(many)
        nexts = self._nexts(first)
        while many > 0 and nexts:
            # From the least one on, so many integers have each rest once.
            stop = min([int(place) for place in nexts]) + self.modulus
            found = sorted([int(place) for place in nexts if place < stop])
            for member in found[:many]:
                yield member
            many -= len(found)
            nexts = self._nexts(stop)

    def turns_with(self, modulus, rest):
        """The turns of the members with a rest by a multiple of the modulus."""
        return turns_at(self._turns[rest % self.modulus], modulus, rest)

    def _nexts(self, first):
        """For each rest that has members from this integer on, the least one of them."""
        found = [
            member_from(places, first + (rest - first) % self.modulus)
            for rest, places in enumerate(self._turns) if places
        ]
        return [place for place in found if place is not None]

    def __and__(self, other):
        if not isinstance(other, Sizes):
            return NotImplemented
        return _joined(self, other, BOTH)

    def __or__(self, other):
        if not isinstance(other, Sizes):
            return NotImplemented
        return _joined(self, other, EITHER)

    def __sub__(self, other):
        if not isinstance(other, Sizes):
            return NotImplemented
        return _joined(self, other, LEFT_ONLY)

    def __le__(self, other):
        if not isinstance(other, Sizes):
            return NotImplemented
        return not bool(_joined(self, other, LEFT_ONLY))

    def __eq__(self, other):
        return isinstance(other, Sizes) and _have_same_members(self, other)

    def __contains__(self, x):
        return is_integer(x) and is_inside(self._turns[x % self.modulus], x)

    def __bool__(self):
        return any([bool(places) for places in self._turns])


def _check_from_zero(value):
    if not is_integer(value) or value < 0:
        raise InvalidNumber(value)


def _ranges_of(turns, modulus):
    closed = [(first, stop - modulus) for first, stop in zip(turns[::2], turns[1::2])]
    endless = [(turns[-1], None)] if len(turns) % 2 == 1 else []
    return tuple(closed + endless)


def _whole_from(turns, modulus):
    """The least integer from which on all are members: next to the last one that is none; None without an end."""
    if not all([len(places) % 2 == 1 for places in turns]):
        return None
    return max([int(places[-1] - modulus + 1) for places in turns])


def _joined(left, right, keeps):
    modulus = lcm(left.modulus, right.modulus)
    if modulus > MODULUS:
        raise TooFine(modulus)
    return Sizes(modulus, [
        joined_turns(left.turns_with(modulus, rest), right.turns_with(modulus, rest), keeps)
        for rest in range(modulus)
    ])


def _have_same_members(left, right):
    modulus = lcm(left.modulus, right.modulus)
    for rest in range(modulus):
        if left.turns_with(modulus, rest) != right.turns_with(modulus, rest):
            return False
    return True
