"""Whether rows of plans are rising."""

from drawclaims.rows import GO_ON, leads_table


def sinking_marks(rows):
    """Any marks and any place at which 1 in the place of 0 makes the class less, None if rows are rising."""
    leads = leads_table(rows)
    # Runs that differ at one place and are at the states k and k + 1 below could have differed just before them,
    # since then the state above goes on: so it is enough to look below each state that goes on.
    for m, row in enumerate(rows):
        for k, letter in enumerate(row):
            if letter == GO_ON and _sinks_below(rows, leads, m + 1, k):
                marks = _marks_to(rows, m, k) + (0,)
                return _finished(rows, leads, k, marks), m
    return None


def _sinks_below(rows, leads, m, k):
    """Whether one of the states k and k + 1 stops, and the first one leads to a greater class than the second."""
    if rows[m][k] == rows[m][k + 1] == GO_ON:
        return False
    return leads[m][k][-1] > leads[m][k + 1][0]


def _marks_to(rows, m, k):
    """Any marks that lead to a reached state."""
    marks = ()
    while m > 0:
        m -= 1
        mark = 0 if rows[m][k:k + 1] == GO_ON else 1
        marks = (mark,) + marks
        k -= mark
    return marks


def _finished(rows, leads, k, marks):
    """The marks with others behind them, so that the run from k gets a greater class than the one from k + 1."""
    m = len(marks)
    target = leads[m][k][-1]
    if rows[m][k] != GO_ON:
        k += 1
        target = leads[m][k][0]
    while rows[m][k] == GO_ON:
        mark = 0 if target in leads[m + 1][k] else 1
        marks = marks + (mark,)
        m += 1
        k += mark
    return marks + (0,) * (len(rows) - 1 - m)
