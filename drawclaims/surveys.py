"""Several tables, each with a name and claims of its own."""

from drawclaims.checks import check_from_size, check_name
from drawclaims.claims import check_claims
from drawclaims.errors import InvalidTables, UnknownName
from drawclaims.greatest import greatest_share
from drawclaims.kinds import is_integer_within
from drawclaims.limits import SIZE
from drawclaims.lines import Line
from drawclaims.ratios import Ratio


class Survey:
    """Claims by the names of their tables."""

    def __init__(self, **tables):
        names = _ascending(tables)
        for name in names:
            check_name(name)
            check_claims(tables[name])
        self.names = tuple(names)
        self._claims = tables

    def claims_of(self, name):
        """The claims of a table."""
        check_name(name)
        if name not in self._claims:
            raise UnknownName(name)
        return self._claims[name]

    def line(self, **numbers):
        """The sum of the lines of these classes, one for each table."""
        total = Line()
        for name in _ascending(numbers):
            total = total + self.claims_of(name).line(numbers[name], name)
        self._check_all_in(numbers)
        return total

    def wrong_share(self, **tables):
        """The wrong share of the choices, for a size and a number of marked rows for each table."""
        for name in _ascending(tables):
            if not _is_table(self.claims_of(name).plan, tables[name]):
                raise InvalidTables(name)
        self._check_all_in(tables)
        shares = []
        for name in self.names:
            size, marked = tables[name]
            shares.append(self._claims[name].wrong_share(size, marked))
        return share_of_choices(shares)

    def greatest(self, *, from_size=1):
        """The greatest wrong share of choices, over all tables of all sizes from this one on."""
        check_from_size(from_size)
        shares = [greatest_share(self._claims[name], from_size=from_size)[0] for name in self.names]
        return share_of_choices(shares)

    def _check_all_in(self, given):
        for name in self.names:
            if name not in given:
                raise UnknownName(name)


def share_of_choices(shares):
    """The share of the choices of which at least one draw is wrong, from the wrong shares of the tables."""
    right = Ratio(1)
    for share in shares:
        right = right * (1 - share)
    return 1 - right


def _ascending(given):
    return sorted([str(name) for name in given])


def _is_table(plan, pair):
    """Whether a value is a size from the longest look on with a number of marked rows."""
    if not isinstance(pair, tuple) or len(pair) != 2:
        return False
    size, marked = pair
    return is_integer_within(size, plan.longest, SIZE) and is_integer_within(marked, 0, size)
