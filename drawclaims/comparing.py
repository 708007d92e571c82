"""Whether two plans give the same classes."""

from drawclaims.checks import check_plan
from drawclaims.rows import GO_ON, NOT_REACHED


def same_classes(plan, other):
    """Whether two plans give the same class for all marks."""
    check_plan(plan)
    check_plan(other)
    return not _parting_table(plan, other)[0][0]


def parting_marks(plan, other):
    """The first marks for which two plans do not give the same class, None if there are none."""
    check_plan(plan)
    check_plan(other)
    table = _parting_table(plan, other)
    if not table[0][0]:
        return None
    marks = []
    m = k = 0
    while plan.rows[m][k] == GO_ON and other.rows[m][k] == GO_ON:
        mark = 0 if table[m + 1][k] else 1
        marks.append(mark)
        m += 1
        k += mark
    # At most one of the two still goes on, and then the other one has stopped with a single class.
    marks = marks + _marks_away(plan, m, k, other.leads(m, k)) + _marks_away(other, m, k, plan.leads(m, k))
    longest = max(int(plan.longest), other.longest)
    return tuple(marks) + (0,) * (longest - len(marks))


def _parting_table(plan, other):
    """For each state that the same marks lead both plans to, whether they part the classes from there on."""
    table = []
    below = []
    for m in range(min(int(plan.longest), other.longest), -1, -1):
        below = [_parts_at(plan, other, m, k, below[k:k + 2]) for k in range(m + 1)]
        table.append(below)
    return table[::-1]


def _parts_at(plan, other, m, k, below):
    letters = (plan.rows[m][k], other.rows[m][k])
    if NOT_REACHED in letters:
        return False
    if letters == (GO_ON, GO_ON):
        return any(below)
    return plan.leads(m, k) != other.leads(m, k)


def _marks_away(plan, m, k, leads):
    """The first marks with which a plan goes on from a state and stops with another class than this single one."""
    marks = []
    while plan.rows[m][k] == GO_ON:
        mark = 0 if plan.leads(m + 1, k) != leads else 1
        marks.append(mark)
        m += 1
        k += mark
    return marks
