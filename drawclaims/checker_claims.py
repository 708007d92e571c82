"""Claims and their series, looked at by the checker; only the checker uses this."""

from drawclaims.checker_counts import every_weight, weight_up_to
from drawclaims.checker_ladders import is_ladder, is_never_below
from drawclaims.checker_plans import are_plan, class_count
from drawclaims.checker_values import is_tuple, is_whole
from drawclaims.limits import BOTTOM, OFFSET, SIZE


class Question:
    """Whether the draws of a plan are wrong for at most a share a / b, or for less of them, at all sizes."""

    def __init__(self, rows, bottom, share, from_size, less):
        self.rows = rows
        self.bottom = bottom
        self.share = share
        self.start = first_size(rows, from_size)
        # What is taken from all values of the series: with 1 the share is not reached.
        self.less = less


def first_size(rows, from_size):
    """The least size from this one on of which the plan can look at all rows."""
    return max(int(from_size), len(rows) - 1)


def are_claims(rows, bottom, lines):
    """Whether three values are the parts of claims."""
    if not are_plan(rows) or not is_whole(bottom, 1, BOTTOM):
        return False
    if not is_tuple(lines, class_count(rows) - 1):
        return False
    if not all([_is_line(line, bottom) for line in lines]):
        return False
    looked = len(rows) - 1
    return all([_rises(before, line, looked) for before, line in zip(lines, lines[1:])])


def is_table(rows, size, marked):
    """Whether two values are a size and a number of marked rows."""
    return is_whole(size, len(rows) - 1, SIZE) and is_whole(marked, 0, size)


def bound_at(line, bottom, size):
    """The bound of a class with this line."""
    return (line[0] * size + line[1]) // bottom


def wrong_draws(rows, bottom, lines, size, marked):
    """The number of wrong draws: those of the classes, one behind the other, whose bounds are too low."""
    low = len([line for line in lines if bound_at(line, bottom, size) < marked])
    return weight_up_to(rows, low - 1, marked, size - marked, 1)


def are_ladders(given, question, lines):
    """Whether a value is the ladders of the series of claims, and no value of a series is less than 0."""
    if not is_tuple(given, len(lines)):
        return False
    for number, line in enumerate(lines):
        if not are_class_ladders(given[number], question, number, line):
            return False
    return True


def are_class_ladders(given, question, number, line):
    """The same for one class."""
    if not is_tuple(given, question.bottom):
        return False
    for rest, ladder in enumerate(given):
        if not _is_rest_ladder(ladder, question, number, line, rest):
            return False
    return True


def _is_line(line, bottom):
    return is_tuple(line, 2) and is_whole(line[0], 0, bottom) and is_whole(line[1], -OFFSET, OFFSET)


def _rises(before, line, looked):
    return before[0] <= line[0] and before[0] * looked + before[1] <= line[0] * looked + line[1]


def _is_rest_ladder(given, question, number, line, rest):
    place = _first_place(question, line, rest)
    if place is None:
        return is_tuple(given, 0)
    if bound_at(line, question.bottom, question.bottom * place + rest) < -1:
        return False
    values = [_value_at(question, number, line, question.bottom * at + rest)
              for at in range(place, place + len(question.rows))]
    return is_ladder(given, values) and is_never_below(given)


def _first_place(question, line, rest):
    """The least t whose size is from the start on and greater than the bound, None if there is none."""
    place = max(0, -((rest - question.start) // question.bottom))
    size = question.bottom * place + rest
    gap, rise = size - bound_at(line, question.bottom, size), question.bottom - line[0]
    if gap > 0:
        return place
    return place + -gap // rise + 1 if rise > 0 else None


def _value_at(question, number, line, size):
    """The value of the series of a class at the place of this size."""
    marked = bound_at(line, question.bottom, size) + 1
    wrong = weight_up_to(question.rows, number, marked, size - marked, 1)
    top, bottom = question.share
    return top * every_weight(size, len(question.rows) - 1, 1) - bottom * wrong - question.less
