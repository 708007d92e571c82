"""How many of all draws get a class."""

from drawclaims.checks import check_marked, check_number, check_plan, check_size
from drawclaims.errors import InvalidNumber
from drawclaims.kinds import is_integer, is_integer_within
from drawclaims.limits import LONGEST
from drawclaims.ratios import Ratio


def falling(top, times):
    """top (top - 1) (top - 2) .., a product of so many integers."""
    if not is_integer(top):
        raise InvalidNumber(top)
    if not is_integer_within(times, 0, LONGEST):
        raise InvalidNumber(times)
    return fallings(top, times)[times]


def draws(plan, size):
    """The number of draws from a table of this size."""
    check_plan(plan)
    check_size(plan, size)
    return fallings(size, plan.longest)[plan.longest]


def class_counts(plan, size, marked):
    """The number of the draws of each class."""
    check_plan(plan)
    check_size(plan, size)
    check_marked(size, marked)
    counts = [0] * plan.classes
    for stop, count in zip(plan.stops, _stop_counts(plan, plan.stops, size, marked)):
        counts[stop[2]] += count
    return tuple(counts)


def up_to(plan, number, size, marked):
    """The number of the draws of a class up to this one."""
    check_plan(plan)
    check_number(plan, number)
    check_size(plan, size)
    check_marked(size, marked)
    return count_up_to(plan, number, size, marked)


def mean_looked(plan, size, marked):
    """The mean number of rows that the plan looks at, over all draws."""
    check_plan(plan)
    check_size(plan, size)
    check_marked(size, marked)
    counts = _stop_counts(plan, plan.stops, size, marked)
    looked = sum([stop[0] * count for stop, count in zip(plan.stops, counts)])
    return Ratio(looked, draws(plan, size))


def fallings(top, most):
    """The products of 0, 1, .., most integers from top downwards."""
    values = [1]
    for times in range(most):
        values.append(values[times] * (top - times))
    return values


def count_up_to(plan, number, size, marked):
    """The number of the draws of a class up to this one, for arguments that are right."""
    stops = [stop for stop in plan.stops if stop[2] <= number]
    return sum(_stop_counts(plan, stops, size, marked))


def _stop_counts(plan, stops, size, marked):
    """For each of these stops of the plan, the number of the draws that get there."""
    marked_ways = fallings(marked, plan.longest)
    other_ways = fallings(size - marked, plan.longest)
    rest_ways = _rest_ways(size, plan.longest)
    return [ways * marked_ways[k] * other_ways[m - k] * rest_ways[m] for m, k, _, ways in stops]


def _rest_ways(size, longest):
    """For each number of rows that were looked at, in how many ways the draw can be filled up."""
    values = [1]
    for looked in range(longest - 1, -1, -1):
        values.append(values[-1] * (size - looked))
    return values[::-1]
