"""Ladders of series, tried by the checker; only the checker uses this."""

from drawclaims.checker_values import is_integer, is_tuple


def is_ladder(given, values):
    """Whether a value is the ladder of the series with these values."""
    heads = _heads_of(values)
    top = len(heads) - 1
    while top > 0 and heads[top] == 0:
        top -= 1
    if not isinstance(given, tuple) or len(given) != top + 1:
        return False
    heads = heads[:top + 1]
    # Of the order above the top all values are 0.
    above = ((0, 1),)
    for order, runs in zip(range(top, -1, -1), given):
        if not _are_runs(runs) or not _fits(runs, above, heads[order:]):
            return False
        above = runs
    return True


def is_never_below(ladder):
    """Whether a ladder tells that no value of the series is less than 0."""
    runs = ladder[-1]
    return len(runs) == 1 and runs[0][1] == 1


def _heads_of(values):
    """The differences of the orders 0, 1, .. at 0."""
    heads = []
    while values:
        heads.append(values[0])
        values = [values[at + 1] - values[at] for at in range(len(values) - 1)]
    return heads


def _are_runs(runs):
    if not isinstance(runs, tuple) or len(runs) == 0:
        return False
    before = None
    for run in runs:
        if not _is_run(run) or not _may_follow(run, before):
            return False
        before = run
    return True


def _is_run(run):
    if not is_tuple(run, 2):
        return False
    return is_integer(run[0]) and is_integer(run[1])


def _may_follow(run, before):
    if before is None:
        return run[0] == 0 and run[1] in (1, -1)
    return run[0] > before[0] and run[1] == -before[1]


def _fits(runs, above, heads):
    """Whether runs are those of a polynomial, if those above are right for its difference of order 1.

    From each start above to the next one the values go in one direction, so there is at most one turn between them:
    if the runs have the right signs at the starts above, far out, and on both sides of each of their own turns, they
    miss no turn and have none too many.
    """
    if len(runs) > len(above) + 1 or runs[-1][1] != _sign(heads[-1]):
        return False
    for start, sign in runs:
        if _sign_at(heads, start) != sign or (start > 0 and _sign_at(heads, start - 1) == sign):
            return False
    return all([_sign_at(heads, start) == _told_at(runs, start) for start, _ in above])


def _told_at(runs, place):
    return [sign for start, sign in runs if start <= place][-1]


def _sign_at(heads, place):
    value = 0
    choices = 1
    for order, head in enumerate(heads):
        value += head * choices
        choices = choices * (place - order) // (order + 1)
    return _sign(value)


def _sign(value):
    return 1 if value >= 0 else -1
