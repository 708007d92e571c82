"""Numbers of draws, counted by the checker from row to row; only the checker uses this."""

_GO_ON = "-"
_NOT_REACHED = "."


def every_weight(size, looked, taken):
    """The number of draws of so many rows: each row that is looked at takes so many rows of the table away."""
    weight = 1
    for m in range(looked):
        weight *= size - taken * m
    return weight


def weight_up_to(rows, number, marked, others, taken):
    """The number of these draws with a class up to this one, from so many marked and other rows."""
    total = 0
    weights = [1]
    for m, row in enumerate(rows):
        # The runs that have stopped before are filled up with any of the rows that are left.
        total = total * (marked + others - taken * (m - 1)) + _stopping(row, number, weights)
        onward = [weight if letter == _GO_ON else 0 for weight, letter in zip(weights, row)]
        left = [weight * (others - taken * (m - k)) for k, weight in enumerate(onward)]
        right = [weight * (marked - taken * k) for k, weight in enumerate(onward)]
        weights = [low + high for low, high in zip(left + [0], [0] + right)]
    return total


def is_up_to_above(rows, number, share, size, marked):
    """Whether the draws of a class up to this one are more than the share of all draws."""
    found = weight_up_to(rows, number, marked, size - marked, 1)
    return found * share[1] > share[0] * every_weight(size, len(rows) - 1, 1)


def _stopping(row, number, weights):
    return sum([
        weight for weight, letter in zip(weights, row)
        if letter not in _GO_ON + _NOT_REACHED and int(letter) <= number
    ])
