"""Series: the values of a polynomial at 0, 1, 2, .., and at which integers it is below 0."""

from drawclaims.errors import InvalidNumber, InvalidSeries
from drawclaims.kinds import is_integer
from drawclaims.limits import LONGEST
from drawclaims.polynomials import heads_of, ladder_from, value_from


def value_at(series, place):
    """The value of the polynomial of a series at an integer from 0 on."""
    _check_series(series)
    if not is_integer(place) or place < 0:
        raise InvalidNumber(place)
    return value_from(heads_of(series), place)


def runs_of(series):
    """From which integers on the polynomial of a series is 0 or greater, and from which on it is less."""
    return ladder_of(series)[-1]


def ladder_of(series):
    """The runs of the differences of a series, from the greatest order to the order 0."""
    _check_series(series)
    return ladder_from(heads_of(series))


def _check_series(series):
    if not isinstance(series, tuple) or not 1 <= len(series) <= LONGEST + 1:
        raise InvalidSeries(None)
    for at, value in enumerate(series):
        if not is_integer(value):
            raise InvalidSeries(at)
