"""Claims of a least and a greatest number of marked rows at once."""

from drawclaims.checks import check_marked, check_number, check_size
from drawclaims.claims import check_claims
from drawclaims.counting import class_counts, draws
from drawclaims.errors import InvalidSize, NotFlipped
from drawclaims.greatest import sum_of_greatest
from drawclaims.kinds import is_integer_within
from drawclaims.ratios import Ratio

_GREATEST_TRIED = 200


class TwoSided:
    """Claims about the marked rows, and claims about the other rows with the flipped plan."""

    def __init__(self, at_most, at_least):
        check_claims(at_most)
        check_claims(at_least)
        if at_least.plan != at_most.plan.flipped():
            raise NotFlipped(at_least.plan.rows)
        self.at_most = at_most
        self.at_least = at_least

    def interval(self, number, size):
        """The least and the greatest number of marked rows that are claimed with a class."""
        check_number(self.at_most.plan, number)
        check_size(self.at_most.plan, size)
        turned = self.at_most.plan.classes - 1 - number
        return size - self.at_least.bound(turned, size), self.at_most.bound(number, size)

    def wrong_share(self, size, marked):
        """The share of the draws whose interval does not have the number of marked rows."""
        check_size(self.at_most.plan, size)
        check_marked(size, marked)
        return Ratio(self._wrong(size, marked), draws(self.at_most.plan, size))

    def worst(self, size):
        """The greatest such share at a size, and the least number of marked rows with it."""
        if not is_integer_within(size, self.at_most.plan.longest, _GREATEST_TRIED):
            raise InvalidSize(size)
        counts = [self._wrong(size, marked) for marked in range(size + 1)]
        most = max([int(count) for count in counts])
        return Ratio(most, draws(self.at_most.plan, size)), counts.index(most)

    def most_share(self, *, from_size=1):
        """The sum of the greatest shares of both claims, 1 if it is greater."""
        return sum_of_greatest((self.at_most, self.at_least), from_size)

    def _wrong(self, size, marked):
        """The number of the draws whose interval does not have the number of marked rows."""
        wrong = 0
        for number, count in enumerate(class_counts(self.at_most.plan, size, marked)):
            least, most = self.interval(number, size)
            if not least <= marked <= most:
                wrong += count
        return wrong
