"""Polynomials that are told by their heads: their differences of the orders 0, 1, .. at 0."""


def heads_of(values):
    """The heads of the one polynomial of least degree with these values at 0, 1, .."""
    heads = []
    row = list(values)
    while row:
        heads.append(row[0])
        row = [after - before for before, after in zip(row, row[1:])]
    return heads


def value_from(heads, place):
    """The value at an integer."""
    value = 0
    choices = 1
    for order, head in enumerate(heads):
        value += head * choices
        choices = choices * (place - order) // (order + 1)
    return value


def ladder_from(heads):
    """The runs of the differences, from the greatest order that is not 0 everywhere to the order 0."""
    top = len(heads) - 1
    while top > 0 and heads[top] == 0:
        top -= 1
    runs = ((0, _sign(heads[top])),)
    ladder = [runs]
    for order in range(top - 1, -1, -1):
        runs = _runs_below(_weighted(heads[order:top + 1]), runs)
        ladder.append(runs)
    return tuple(ladder)


def _sign(value):
    return 1 if value >= 0 else -1


def _weighted(heads):
    """The heads times top! / order!, so that the signs of values can be found without a division."""
    weighted = []
    weight = 1
    for order in range(len(heads) - 1, -1, -1):
        weighted.append(heads[order] * weight)
        weight *= order
    return weighted[::-1]


def _sign_at(weighted, place):
    value = 0
    for order in range(len(weighted) - 1, -1, -1):
        value = value * (place - order) + weighted[order]
    return _sign(value)


def _runs_below(weighted, above):
    """The runs of a polynomial, from those of its difference of order 1."""
    sign = _sign(weighted[0])
    runs = [(0, sign)]
    for at, (start, rise) in enumerate(above):
        # From here to the next start, this place included, the values go in one direction.
        if rise != sign:
            stop = above[at + 1][0] if at + 1 < len(above) else None
            place = _first_turn(weighted, sign, start, stop)
            if place is not None:
                sign = -sign
                runs.append((place, sign))
    return tuple(runs)


def _first_turn(weighted, sign, start, stop):
    """The first place behind the start, up to the stop, with another sign; None if there is none.

    Without a stop there is one: a difference that is not 0 everywhere leads away from 0 in the end.
    """
    if stop is not None and _sign_at(weighted, stop) == sign:
        return None
    step = 1
    while (stop is None or start + step < stop) and _sign_at(weighted, start + step) == sign:
        start += step
        step *= 2
    turned = start + step if stop is None else min(int(stop), start + step)
    while turned - start > 1:
        middle = (start + turned) // 2
        if _sign_at(weighted, middle) == sign:
            start = middle
        else:
            turned = middle
    return turned
