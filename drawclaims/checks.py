"""Checks of arguments that many functions have."""

from drawclaims.errors import InvalidKeys, InvalidMarked, InvalidName, InvalidNumber, InvalidShare, InvalidSize
from drawclaims.errors import NotAPlan
from drawclaims.kinds import is_integer_within, is_key, is_name
from drawclaims.limits import BOTTOM, FROM, OFFSET, SIZE
from drawclaims.plans import Plan
from drawclaims.ratios import is_share


def check_plan(plan):
    """Raises NotAPlan if a value is not a plan."""
    if not isinstance(plan, Plan):
        raise NotAPlan(plan)


def check_number(plan, number):
    """Raises InvalidNumber if a value is not a class of the plan."""
    if not is_integer_within(number, 0, plan.classes - 1):
        raise InvalidNumber(number)


def check_size(plan, size):
    """Raises InvalidSize if a value is not a size from the longest look of the plan on."""
    if not is_integer_within(size, plan.longest, SIZE):
        raise InvalidSize(size)


def check_marked(size, marked):
    """Raises InvalidMarked if a value is not a number of marked rows of a table of this size."""
    if not is_integer_within(marked, 0, size):
        raise InvalidMarked(marked)


def check_share(share):
    """Raises InvalidShare if a value is not a share."""
    if not is_share(share):
        raise InvalidShare(share)


def check_from_size(from_size):
    """Raises InvalidSize if a value is not a size from which on tables may be asked for."""
    if not is_integer_within(from_size, 1, FROM):
        raise InvalidSize(from_size)


def check_bottom(bottom):
    """Raises InvalidNumber if a value is not a bottom of claims."""
    if not is_integer_within(bottom, 1, BOTTOM):
        raise InvalidNumber(bottom)


def check_offset_up(offset):
    """Raises InvalidNumber if a value is not an offset from 0 on."""
    if not is_integer_within(offset, 0, OFFSET):
        raise InvalidNumber(offset)


def check_key(key):
    """Raises InvalidNumber if a value is not a key."""
    if not is_key(key):
        raise InvalidNumber(key)


def check_keys(keys):
    """Raises InvalidKeys if a value is not a tuple of keys; they need not differ."""
    if not isinstance(keys, tuple):
        raise InvalidKeys(None)
    for at, key in enumerate(keys):
        if not is_key(key):
            raise InvalidKeys(at)


def check_mark(marked):
    """Raises InvalidMarked if a value is not True or False."""
    if not isinstance(marked, bool):
        raise InvalidMarked(marked)


def check_name(name):
    """Raises InvalidName if a value is not a name."""
    if not is_name(name):
        raise InvalidName(name)
