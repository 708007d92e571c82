"""The least bounds, slopes, offsets and numbers of rows that suffice for a share."""

from drawclaims.checks import check_bottom, check_from_size, check_offset_up, check_plan, check_share, check_size
from drawclaims.counting import count_up_to, draws
from drawclaims.errors import InvalidNumber
from drawclaims.holding import class_holds, first_size
from drawclaims.kinds import is_integer_within
from drawclaims.limits import LONGEST, OFFSET
from drawclaims.plans import Plan
from drawclaims.shapes import check_looks


def least_bounds(plan, share, size):
    """For each class but the last one the greatest number of marked rows at which its draws are more than the share."""
    check_plan(plan)
    check_share(share)
    check_size(plan, size)
    return tuple([_least_bound(plan, number, share, size) for number in range(plan.classes - 1)])


def least_slopes(plan, share, bottom, *, offset=0, from_size=1):
    """The least slope for each class but the last one, with the same offset for all of them."""
    check_plan(plan)
    check_share(share)
    check_bottom(bottom)
    check_offset_up(offset)
    check_from_size(from_size)
    start = first_size(plan, from_size)
    return tuple([least_slope(plan, number, share, bottom, offset, start) for number in range(plan.classes - 1)])


def least_offsets(plan, share, bottom, slope, *, from_size=1):
    """The least offset for each class but the last one, with the same slope for all of them, None where none is."""
    check_plan(plan)
    check_share(share)
    check_bottom(bottom)
    _check_within(slope, 0, bottom)
    check_from_size(from_size)
    start = first_size(plan, from_size)
    return tuple([_least_offset(plan, number, share, bottom, slope, start) for number in range(plan.classes - 1)])


def least_look(share, bottom, slope, *, offset=0, allowed=0, from_size=1):
    """The least number of rows after which at most the allowed number of marked rows is enough for the claim."""
    _check_claim(share, bottom, slope)
    _check_rest(offset, allowed, from_size)
    for looked in range(allowed + 1, LONGEST + 1):
        plan = Plan.fixed(looked, allowed)
        if class_holds(plan, 0, bottom, (slope, offset), share, first_size(plan, from_size)):
            return looked
    return None


def next_look(share, bottom, slope, *looks, offset=0, allowed=0, from_size=1):
    """Likewise the least number of rows of one more look behind these looks."""
    _check_claim(share, bottom, slope)
    check_looks(looks)
    _check_rest(offset, allowed, from_size)
    last = looks[-1][0]
    for looked in range(max(int(last), allowed) + 1, LONGEST + 1):
        pairs = looks + ((looked, allowed),)
        plan = Plan.looks(*pairs)
        if class_holds(plan, 0, bottom, (slope, offset), share, first_size(plan, from_size)):
            return looked
    return None


def least_slope(plan, number, share, bottom, offset, start):
    """The least slope with which a class is wrong for at most the share of the draws, at all sizes from the start."""
    low, high = 0, bottom
    while low < high:
        slope = (low + high) // 2
        if class_holds(plan, number, bottom, (slope, offset), share, start):
            high = slope
        else:
            low = slope + 1
    return low


def _least_bound(plan, number, share, size):
    every = draws(plan, size)
    low, high = 0, size
    while low < high:
        marked = (low + high + 1) // 2
        if count_up_to(plan, number, size, marked) * share.bottom > share.top * every:
            low = marked
        else:
            high = marked - 1
    return low


def _least_offset(plan, number, share, bottom, slope, start):
    if not class_holds(plan, number, bottom, (slope, OFFSET), share, start):
        return None
    low, high = -OFFSET, OFFSET
    while low < high:
        offset = (low + high) // 2
        if class_holds(plan, number, bottom, (slope, offset), share, start):
            high = offset
        else:
            low = offset + 1
    return low


def _check_claim(share, bottom, slope):
    check_share(share)
    check_bottom(bottom)
    _check_within(slope, 0, bottom)


def _check_rest(offset, allowed, from_size):
    _check_within(offset, -OFFSET, OFFSET)
    _check_within(allowed, 0, LONGEST - 1)
    check_from_size(from_size)


def _check_within(number, least, most):
    if not is_integer_within(number, least, most):
        raise InvalidNumber(number)
