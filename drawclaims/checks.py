"""Checks of arguments that many functions have."""

from drawclaims.errors import InvalidMarked, InvalidNumber, InvalidSize, NotAPlan
from drawclaims.kinds import is_integer_within
from drawclaims.limits import SIZE
from drawclaims.plans import Plan


def check_plan(plan):
    """Raises NotAPlan if a value is not a plan."""
    if not isinstance(plan, Plan):
        raise NotAPlan(plan)


def check_number(plan, number):
    """Raises InvalidNumber if a value is not a class of the plan."""
    if not is_integer_within(number, 0, plan.classes - 1):
        raise InvalidNumber(number)


def check_size(plan, size):
    """Raises InvalidSize if a value is not a size from the longest look of the plan on."""
    if not is_integer_within(size, plan.longest, SIZE):
        raise InvalidSize(size)


def check_marked(size, marked):
    """Raises InvalidMarked if a value is not a number of marked rows of a table of this size."""
    if not is_integer_within(marked, 0, size):
        raise InvalidMarked(marked)
