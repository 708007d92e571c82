"""The rows of plans: their form, and what is counted on them from state to state."""

from drawclaims.errors import InvalidRows
from drawclaims.limits import CLASSES, LONGEST

GO_ON = "-"
NOT_REACHED = "."
_DIGITS = "01234567"


def check_rows(rows):
    """Raises InvalidRows if rows are not those of a plan; whether they are rising is not asked."""
    if not 2 <= len(rows) <= LONGEST + 1:
        raise InvalidRows(None)
    at = _first_misfit(rows)
    if at is not None:
        raise InvalidRows(at)
    found = [number for number in range(CLASSES) if any([str(number) in row for row in rows])]
    if len(found) < 2 or found[-1] != len(found) - 1:
        raise InvalidRows(None)


def reached_below(row):
    """For each state of the next row, whether it is reached."""
    sides = NOT_REACHED + row + NOT_REACHED
    return [GO_ON in sides[k:k + 2] for k in range(len(row) + 1)]


def rows_by(letter_at, longest):
    """The rows that have these letters at the states that are reached, without rows that have none."""
    rows = []
    reached = [True]
    for m in range(longest + 1):
        row = "".join([letter_at(m, k) if reached[k] else NOT_REACHED for k in range(m + 1)])
        rows.append(row)
        reached = reached_below(row)
        if not any(reached):
            break
    return rows


def curtailed_rows(rows):
    """The rows of the plan that stops as soon as a state leads to one class only."""
    leads = leads_table(rows)

    def letter_at(m, k):
        return str(leads[m][k][0]) if len(leads[m][k]) == 1 else GO_ON

    return rows_by(letter_at, len(rows) - 1)


def flipped_rows(rows, classes):
    """The rows of the plan with marked and other rows exchanged, and the classes from behind."""
    return ["".join([_flipped_letter(letter, classes) for letter in row[::-1]]) for row in rows]


def leads_table(rows):
    """For each state the ascending tuple of the classes that it leads to."""
    return _table_from_behind(rows, _leads_at)


def looks_table(rows):
    """For each state the least and the greatest number of rows that are still looked at."""
    return _table_from_behind(rows, _looks_at)


def ways_table(rows):
    """For each state the number of ways to it from the first one."""
    above = [1]
    table = [above]
    for row in rows[:-1]:
        onward = [ways if letter == GO_ON else 0 for ways, letter in zip(above, row)]
        above = [left + right for left, right in zip([0] + onward, onward + [0])]
        table.append(above)
    return table


def stops_of(rows):
    """For each state that stops, m, k, its class, and the number of ways to it."""
    ways = ways_table(rows)
    return tuple([
        (m, k, int(letter), ways[m][k])
        for m, row in enumerate(rows)
        for k, letter in enumerate(row)
        if letter in _DIGITS
    ])


def _first_misfit(rows):
    """The first index of a row that does not fit the rows before it, None if there is none."""
    if not isinstance(rows[0], str) or rows[0] != GO_ON:
        return 0
    reached = [True]
    for at, row in enumerate(rows):
        if not _fits(row, reached):
            return at
        reached = reached_below(row)
    last = len(rows) - 1
    if GO_ON in rows[last] or rows[last] == NOT_REACHED * len(rows):
        return last
    return None


def _fits(row, reached):
    if not isinstance(row, str) or len(row) != len(reached):
        return False
    return all([_stands_at(letter, known) for letter, known in zip(row, reached)])


def _stands_at(letter, known):
    return letter in GO_ON + _DIGITS if known else letter == NOT_REACHED


def _flipped_letter(letter, classes):
    return str(classes - 1 - int(letter)) if letter in _DIGITS else letter


def _table_from_behind(rows, value_at):
    """For each state the value that comes from its letter and from the values of the two states below it."""
    table = []
    below = ()
    for row in rows[::-1]:
        below = tuple([value_at(letter, below[k:k + 2]) for k, letter in enumerate(row)])
        table.append(below)
    return table[::-1]


def _leads_at(letter, below):
    if letter == GO_ON:
        low, high = below
        return tuple([number for number in range(CLASSES) if number in low or number in high])
    return () if letter == NOT_REACHED else (int(letter),)


def _looks_at(letter, below):
    if letter != GO_ON:
        return 0, 0
    low, high = below
    return 1 + min(int(low[0]), high[0]), 1 + max(int(low[1]), high[1])
