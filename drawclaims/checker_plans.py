"""Rows of plans, looked at by the checker; only the checker uses this."""

from drawclaims.limits import CLASSES, LONGEST

_GO_ON = "-"
_NOT_REACHED = "."
_REACHED = "-01234567"


def are_rows(rows):
    """Whether a value is the rows of a plan, which may be not rising."""
    if not isinstance(rows, tuple) or not 2 <= len(rows) <= LONGEST + 1:
        return False
    reached = [True]
    for row in rows:
        # Behind a row without a reached state there is none.
        if not any(reached) or not _is_row(row, reached):
            return False
        reached = [_GO_ON in sides for sides in _sides_of(row)]
    return not any(reached) and _are_classes(rows)


def are_plan(rows):
    """Whether a value is the rows of a plan, which is rising."""
    return are_rows(rows) and _are_rising(rows)


def class_count(rows):
    """The number of the classes."""
    return len([number for number in range(CLASSES) if _has_class(rows, number)])


def class_of(rows, marks):
    """The class that these marks get."""
    m = k = 0
    while rows[m][k] == _GO_ON:
        k += marks[m]
        m += 1
    return int(rows[m][k])


def are_alike(rows, more):
    """Whether the rows of two plans give the same class for all marks."""
    spans, others = _class_spans(rows), _class_spans(more)
    met = [0]
    for m in range(min(len(rows), len(more))):
        going = [k for k in met if rows[m][k] == _GO_ON and more[m][k] == _GO_ON]
        # Elsewhere one of the two stops, and the other one must lead to this class only.
        if any([spans[m][k] != others[m][k] for k in met if k not in going]):
            return False
        met = [k for k in range(m + 2) if k in going or k - 1 in going]
    return True


def _is_row(row, reached):
    if not isinstance(row, str) or len(row) != len(reached):
        return False
    return all([letter in (_REACHED if known else _NOT_REACHED) for letter, known in zip(row, reached)])


def _sides_of(row):
    """For each state of the next row, the letters of the one or two states above it."""
    return [row[max(0, k - 1):k + 1] for k in range(len(row) + 1)]


def _are_classes(rows):
    many = class_count(rows)
    return many >= 2 and all([_has_class(rows, number) for number in range(many)])


def _has_class(rows, number):
    return any([str(number) in row for row in rows])


def _are_rising(rows):
    spans = _class_spans(rows)
    for m, row in enumerate(rows):
        for k, letter in enumerate(row):
            # While both states go on, the runs can differ as well from there on.
            if letter == _GO_ON and rows[m + 1][k:k + 2] != _GO_ON + _GO_ON:
                if spans[m + 1][k][1] > spans[m + 1][k + 1][0]:
                    return False
    return True


def _class_spans(rows):
    """For each reached state the least and the greatest class that it leads to."""
    spans = []
    below = []
    for row in rows[::-1]:
        below = [_span_at(letter, below[k:k + 2]) for k, letter in enumerate(row)]
        spans.append(below)
    return spans[::-1]


def _span_at(letter, below):
    if letter == _NOT_REACHED:
        return None
    if letter != _GO_ON:
        return int(letter), int(letter)
    left, right = below
    return min(int(left[0]), right[0]), max(int(left[1]), right[1])
