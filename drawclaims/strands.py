"""Strands: the sizes with one rest, at which the bound of a class and the numbers of draws are polynomials."""

from drawclaims.counting import count_up_to, fallings


class Strand:
    """The sizes bottom * t + rest for t from 0 on, with the bound of one class at them.

    first is the least t whose size is at least the start. From below on the bound is below the size, and from sound
    on it is at least -1, too; each of the two is at least first, and None if there is no such t.
    """

    def __init__(self, plan, number, bottom, line, rest, start):
        self.plan = plan
        self.number = number
        self.bottom = bottom
        self.slope = line[0]
        self.rest = rest
        self.base = (line[0] * rest + line[1]) // bottom
        # Not below 0, since the rest is less than the bottom.
        self.first = -((rest - start) // bottom)
        self.below = _least_below(self)
        self.sound = _least_sound(self)

    def size_of(self, t):
        """The size that t stands for."""
        return self.bottom * t + self.rest

    def bound_of(self, t):
        """The bound of the class at this size."""
        return self.slope * t + self.base

    def wrong_of(self, t):
        """The number of draws of a class up to this one, with one marked row more than the bound."""
        return count_up_to(self.plan, self.number, self.size_of(t), self.bound_of(t) + 1)

    def all_of(self, t):
        """The number of draws."""
        return fallings(self.size_of(t), self.plan.longest)[-1]

    def series_from(self, t, top, bottom):
        """The values of top / bottom of all draws less the wrong ones, times the bottom, from t on."""
        return tuple([
            top * self.all_of(place) - bottom * self.wrong_of(place)
            for place in range(t, t + self.plan.longest + 1)
        ])

    def steps_from(self, t):
        """From t on, values with the signs of the steps of the share of the wrong draws from each size to the next.

        All draws at two such sizes are products with common factors, which the signs do not need; the other factors
        are as many as the smaller of the longest look and the bottom. The wrong draws are polynomials of a degree up
        to the look. The share comes near to a limit, so its steps become less like 1 / t ** 2: of the polynomial of
        the steps the two greatest powers go out.
        """
        longest = self.plan.longest
        many = min(int(longest), self.bottom)
        wrong = [self.wrong_of(place) for place in range(t, t + longest + many)]
        sizes = [self.size_of(place) for place in range(t, t + longest + many)]
        return [
            after * fallings(size - longest + many, many)[-1] - before * fallings(size + self.bottom, many)[-1]
            for before, after, size in zip(wrong, wrong[1:], sizes)
        ]


def strands_of(plan, number, bottom, line, start):
    """The strands of a class, for each rest."""
    return [Strand(plan, number, bottom, line, rest, start) for rest in range(bottom)]


def _least_below(strand):
    # The gap between size and bound is a line in t, too; it never falls.
    gap, rise = strand.rest - strand.base, strand.bottom - strand.slope
    return _least_above(gap, rise, 0, strand.first)


def _least_sound(strand):
    if strand.below is None:
        return None
    return _least_above(strand.base, strand.slope, -2, strand.below)


def _least_above(base, rise, floor, first):
    """The least t from the first one on for which rise * t + base is greater than the floor, or None."""
    if rise * first + base > floor:
        return first
    return (floor - base) // rise + 1 if rise > 0 else None
