"""Claims of what the program finds, each with a certificate by which the checker sees that it is true."""

from drawclaims.checks import check_bottom, check_from_size, check_offset_up, check_plan, check_share
from drawclaims.comparing import parting_marks
from drawclaims.errors import InvalidNumber
from drawclaims.greatest import greatest_share, limit_share
from drawclaims.holding import class_failing, failing, first_size
from drawclaims.kinds import is_integer_within
from drawclaims.least import least_bounds, least_slope
from drawclaims.polynomials import heads_of, ladder_from
from drawclaims.rising import sinking_marks
from drawclaims.rows import check_rows
from drawclaims.strands import strands_of


def certify_holding(claims, share, *, from_size=1):
    """Certifies that claims hold with a share at all sizes, or that they fail at one."""
    found = failing(claims, share, from_size=from_size)
    parts = (claims.plan.rows, claims.bottom, claims.lines, _pair_of(share))
    if found is not None:
        return ("fails", *parts, *found), ()
    return ("always", *parts, from_size), _ladders_of(claims, share, from_size, 0)


def certify_greatest(claims, *, from_size=1):
    """Certifies the greatest share, and whether it is reached."""
    share, size, marked = greatest_share(claims, from_size=from_size)
    claim = ("greatest", claims.plan.rows, claims.bottom, claims.lines, from_size, _pair_of(share), size, marked)
    above = () if share == 1 else _ladders_of(claims, share, from_size, 0)
    if size is not None:
        return claim, (above, ())
    number = 0
    while limit_share(claims, number) != share:
        number += 1
    return claim, (above, (number, _ladders_of(claims, share, from_size, 1)))


def certify_bounds(plan, share, size):
    """Certifies the least bounds."""
    bounds = least_bounds(plan, share, size)
    return ("bounds", plan.rows, _pair_of(share), size, bounds), ()


def certify_slope(plan, number, share, bottom, *, offset=0, from_size=1):
    """Certifies the least slope of a class."""
    check_plan(plan)
    if not is_integer_within(number, 0, plan.classes - 2):
        raise InvalidNumber(number)
    check_share(share)
    check_bottom(bottom)
    check_offset_up(offset)
    check_from_size(from_size)
    start = first_size(plan, from_size)
    slope = least_slope(plan, number, share, bottom, offset, start)
    size = class_failing(plan, number, bottom, (slope - 1, offset), share, start) if slope > 0 else None
    claim = ("slope", plan.rows, number, bottom, offset, _pair_of(share), from_size, slope)
    return claim, (_class_ladders(plan, number, bottom, (slope, offset), share, start, 0), size)


def certify_comparison(plan, other):
    """Certifies that two plans give the same classes, or that they do not."""
    marks = parting_marks(plan, other)
    if marks is None:
        return ("alike", plan.rows, other.rows), ()
    return ("unlike", plan.rows, other.rows), marks


def certify_sinking(*rows):
    """Certifies that rows are not rising, None if they are."""
    check_rows(rows)
    found = sinking_marks(rows)
    return None if found is None else (("sinking", rows), found)


def _pair_of(ratio):
    return ratio.top, ratio.bottom


def _ladders_of(claims, share, from_size, less):
    """For each class but the last one the ladders of its series, whose values are all less by so much."""
    start = first_size(claims.plan, from_size)
    return tuple([
        _class_ladders(claims.plan, number, claims.bottom, line, share, start, less)
        for number, line in enumerate(claims.lines)
    ])


def _class_ladders(plan, number, bottom, line, share, start, less):
    strands = strands_of(plan, number, bottom, line, start)
    return tuple([_ladder_of(strand, share, less) for strand in strands])


def _ladder_of(strand, share, less):
    if strand.below is None:
        return ()
    series = strand.series_from(strand.below, share.top, share.bottom)
    return ladder_from(heads_of([value - less for value in series]))
