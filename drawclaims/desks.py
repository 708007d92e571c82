"""Desks: a survey that is changed deed by deed, and whose greatest wrong share stays within a limit."""

from drawclaims.checks import check_from_size, check_name, check_share
from drawclaims.claims import check_claims
from drawclaims.errors import Busy, InvalidDeeds, InvalidNumber, NotHeld, NothingToUndo, UnknownName
from drawclaims.greatest import greatest_share
from drawclaims.kinds import is_integer
from drawclaims.surveys import Survey, share_of_choices

# How many items a deed with this word has.
_LENGTHS = {"put": 3, "drop": 2, "limit": 2}


class Stand:
    """How a desk stands behind a deed: its limit, and the claims and their greatest shares by the names of tables."""

    def __init__(self, most, claims_by_name, shares_by_name):
        self.most = most
        self.claims_by_name = claims_by_name
        self.shares_by_name = shares_by_name
        self.whole = share_of_choices([shares_by_name[name] for name in shares_by_name])


class Desk:
    """A survey with a limit for its greatest wrong share from a size on."""

    def __init__(self, limit, *, from_size=1):
        check_share(limit)
        check_from_size(from_size)
        self._from_size = from_size
        self.busy = False
        self._stands = [Stand(limit, {}, {})]
        self.history = ()
        self._show()

    @property
    def limit(self):
        """The limit of the greatest wrong share."""
        return self._stands[-1].most

    @limit.setter
    def limit(self, value):
        self._check_free()
        self._do(("limit", value))

    def survey(self):
        """The present survey."""
        tables = self._stands[-1].claims_by_name
        return Survey(**tables)

    def put(self, name, claims):
        """From now on this table has these claims; returns the greatest wrong share."""
        self._check_free()
        self._do(("put", name, claims))
        return self.share

    def drop(self, name):
        """Takes a table out; returns the greatest wrong share."""
        self._check_free()
        self._do(("drop", name))
        return self.share

    def do_all(self, *deeds, watch=None):
        """Does all of these deeds or none; returns the greatest wrong shares behind each."""
        self._check_free()
        _check_deeds(deeds)
        stands, history, share, names = list(self._stands), self.history, self.share, self.names
        shares = None
        self.busy = True
        try:
            shares = self._done(deeds, watch)
        finally:
            self.busy = False
            if shares is None:
                self._stands, self.history, self.share, self.names = stands, history, share, names
        return shares

    def undo(self, *, times=1):
        """Takes back the last deeds."""
        self._check_free()
        if not is_integer(times) or times < 1:
            raise InvalidNumber(times)
        if times > len(self.history):
            raise NothingToUndo()
        self._stands = self._stands[:-times]
        self.history = self.history[:-times]
        self._show()

    def _done(self, deeds, watch):
        shares = []
        for deed in deeds:
            self._do(deed)
            shares.append(self.share)
            if watch is not None:
                watch(self)
        return tuple(shares)

    def _do(self, deed):
        stand = _stand_behind(deed, self._stands[-1], self._from_size)
        if stand.whole > stand.most:
            raise NotHeld(stand.whole)
        self._stands.append(stand)
        self.history = self.history + (deed,)
        self._show()

    def _show(self):
        stand = self._stands[-1]
        self.share = stand.whole
        self.names = tuple(sorted([str(name) for name in stand.claims_by_name]))

    def _check_free(self):
        if self.busy:
            raise Busy()


def set_limit(desk, limit):
    """Assigns the limit of a desk."""
    desk.limit = limit


def _check_deeds(deeds):
    for at, deed in enumerate(deeds):
        if not _is_deed(deed):
            raise InvalidDeeds(at)


def _is_deed(deed):
    if not isinstance(deed, tuple) or len(deed) == 0:
        return False
    word = deed[0]
    return isinstance(word, str) and word in _LENGTHS and len(deed) == _LENGTHS[word]


def _stand_behind(deed, stand, from_size):
    if deed[0] == "put":
        return _with_table(stand, deed[1], deed[2], from_size)
    if deed[0] == "drop":
        return _without_table(stand, deed[1])
    check_share(deed[1])
    return Stand(deed[1], stand.claims_by_name, stand.shares_by_name)


def _with_table(stand, name, claims, from_size):
    check_name(name)
    check_claims(claims)
    share = greatest_share(claims, from_size=from_size)[0]
    return Stand(stand.most, {**stand.claims_by_name, name: claims}, {**stand.shares_by_name, name: share})


def _without_table(stand, name):
    check_name(name)
    if name not in stand.claims_by_name:
        raise UnknownName(name)
    claims_by_name = {other: claims for other, claims in stand.claims_by_name.items() if other != name}
    shares_by_name = {other: share for other, share in stand.shares_by_name.items() if other != name}
    return Stand(stand.most, claims_by_name, shares_by_name)
