"""The greatest share of wrong draws over all tables of all sizes."""

from drawclaims.checks import check_from_size
from drawclaims.claims import check_claims
from drawclaims.errors import InvalidNumber, InvalidRatio
from drawclaims.holding import first_size, worst
from drawclaims.kinds import is_integer_within
from drawclaims.limits import FROM
from drawclaims.polynomials import heads_of, ladder_from
from drawclaims.ratios import Ratio
from drawclaims.strands import strands_of


def limit_share(claims, number):
    """What the wrong share beside the bound of a class comes near to as the size grows."""
    check_claims(claims)
    if not is_integer_within(number, 0, claims.plan.classes - 2):
        raise InvalidNumber(number)
    slope = claims.lines[number][0]
    longest = claims.plan.longest
    marked_ways = _powers(slope, longest)
    other_ways = _powers(claims.bottom - slope, longest)
    every_way = _powers(claims.bottom, longest)
    total = sum([
        ways * marked_ways[k] * other_ways[m - k] * every_way[longest - m]
        for m, k, stopped, ways in claims.plan.stops if stopped <= number
    ])
    return Ratio(total, every_way[longest])


def greatest_share(claims, *, from_size=1):
    """The greatest share, and the least size and number of marked rows with it, or None and None."""
    check_claims(claims)
    check_from_size(from_size)
    start = first_size(claims.plan, from_size)
    strands = _wrong_strands(claims, start)
    share = _greatest_of(claims, strands)
    # A share of 0 is that of each table.
    size = start if share == 0 else _least_size_with(strands, share)
    if size is None:
        return share, None, None
    return share, size, worst(claims, size)[1]


def near_greatest(claims, gap, *, from_size=1):
    """Any size and number of marked rows whose wrong share is greater than the greatest share less the gap."""
    check_claims(claims)
    if not isinstance(gap, Ratio) or gap <= 0 or gap.bottom > FROM:
        raise InvalidRatio(gap)
    check_from_size(from_size)
    share, size, marked = greatest_share(claims, from_size=from_size)
    if size is not None:
        return size, marked
    for strand in _wrong_strands(claims, first_size(claims.plan, from_size)):
        t = _first_above(strand, share - gap)
        if t is not None:
            return strand.size_of(t), strand.bound_of(t) + 1


def sum_of_greatest(parts, from_size):
    """The sum of the greatest shares of several claims, 1 if it is greater."""
    total = Ratio(0)
    for claims in parts:
        total = total + greatest_share(claims, from_size=from_size)[0]
    return total if total <= 1 else Ratio(1)


def _powers(base, most):
    values = [1]
    for power in range(most):
        values.append(values[power] * base)
    return values


def _wrong_strands(claims, start):
    """The strands on which a class can be wrong at all."""
    return [
        strand
        for number, line in enumerate(claims.lines)
        for strand in strands_of(claims.plan, number, claims.bottom, line, start)
        if strand.below is not None
    ]


def _greatest_of(claims, strands):
    """The least share that is not less than that of the wrong draws at any size of a strand."""
    if any([_is_always_wrong(strand) for strand in strands]):
        return Ratio(1)
    share = Ratio(0)
    for number in range(claims.plan.classes - 1):
        # Of a class that is never wrong at great sizes the limit is 0.
        limit = limit_share(claims, number)
        if limit > share:
            share = limit
    # No limit is greater now, so a strand with a greater share has its greatest one at a size.
    for strand in strands:
        if _first_above(strand, share) is not None:
            share = _greatest_peak(strand)
    return share


def _is_always_wrong(strand):
    """Whether the bound is below -1 at first: then all draws from tables without a marked row are wrong."""
    return strand.sound != strand.below


def _first_above(strand, share):
    """The least t at which the share of the wrong draws is greater than this ratio, None if there is none."""
    return _first_below_zero(strand.below, strand.series_from(strand.below, share.top, share.bottom))


def _first_below_zero(t, series):
    for start, sign in ladder_from(heads_of(series))[-1]:
        if sign < 0:
            return t + start
    return None


def _greatest_peak(strand):
    """The greatest share of the wrong draws, if it is greater than the limit: the first one, or one at a turn."""
    share = Ratio(0)
    for start, _ in ladder_from(heads_of(strand.steps_from(strand.below)))[-1]:
        t = strand.below + start
        found = Ratio(strand.wrong_of(t), strand.all_of(t))
        if found > share:
            share = found
    return share


def _least_size_with(strands, share):
    """The least size at which the greatest share is that of the wrong draws, None if there is none."""
    sizes = []
    for strand in strands:
        t = strand.below if _is_always_wrong(strand) else _first_with(strand, share)
        if t is not None:
            sizes.append(strand.size_of(t))
    return min([int(size) for size in sizes], default=None)


def _first_with(strand, share):
    """The least t at which the share of the wrong draws is this greatest one, None if there is none."""
    # The values are integers from 0 on, and those at the greatest share are 0.
    series = strand.series_from(strand.below, share.top, share.bottom)
    return _first_below_zero(strand.below, [value - 1 for value in series])
