"""What a claim about the rows of then still tells of a table that has changed."""

from drawclaims.checks import check_key, check_mark
from drawclaims.errors import Contradiction, InvalidKeys, InvalidNumber, KnownRow, UnknownRow
from drawclaims.kinds import is_integer, is_key

# A row of then as it was then, and a row that was put: of neither it was told whether it is marked now.
_STILL = "still"
_NEW = "new"
# It was told by learn or change whether the row is marked now.
_MARKED = "marked"
_OTHER = "other"


class Carry:
    """A claim about the rows of then, and what was told of the table since."""

    def __init__(self, most, *keys, least=0):
        _check_integer(most)
        _check_different_keys(keys)
        _check_integer(least)
        self._most = most
        self._least = least
        self._kinds = {key: _STILL for key in keys}
        self._many = {_STILL: len(keys), _NEW: 0, _MARKED: 0, _OTHER: 0}
        # Of the rows of then, also of those that are dropped or changed by now.
        self._marked_then = 0
        self._open_then = len(keys)
        self._settle()

    def put(self, key):
        """A row was put; it is not told whether it is marked."""
        check_key(key)
        if key in self._kinds:
            raise KnownRow(key)
        self._kinds[key] = _NEW
        self._many[_NEW] += 1
        self._settle()

    def drop(self, key):
        """The row was dropped."""
        self._check_known(key)
        kind = self._kinds.pop(key)
        self._many[kind] -= 1
        self._settle()

    def change(self, key, marked):
        """From now on the row is marked or not; what it was is not told."""
        self._check_known(key)
        check_mark(marked)
        self._tell(key, marked)
        self._settle()

    def learn(self, key, marked):
        """It was told whether the row is marked now."""
        self._check_known(key)
        check_mark(marked)
        kind = self._kinds[key]
        if kind == (_OTHER if marked else _MARKED):
            raise Contradiction(key)
        if kind == _STILL:
            self._open_then -= 1
            self._marked_then += int(marked)
        self._tell(key, marked)
        self._settle()

    def _tell(self, key, marked):
        before, kind = self._kinds[key], _MARKED if marked else _OTHER
        self._kinds[key] = kind
        self._many[before] -= 1
        self._many[kind] += 1

    def _settle(self):
        """Finds what the claim tells now."""
        self.size = len(self._kinds)
        fewest = max(int(self._marked_then), self._least)
        greatest = min(int(self._marked_then + self._open_then), self._most)
        self.refuted = fewest > greatest
        if self.refuted:
            self.most_now = self.least_now = None
            return
        still, told = self._many[_STILL], self._many[_MARKED]
        # Open rows of then that are dropped or changed by now take up as many of the marks as they can.
        gone = self._open_then - still
        self.most_now = told + self._many[_NEW] + min(int(still), greatest - self._marked_then)
        self.least_now = told + max(0, fewest - self._marked_then - gone)

    def _check_known(self, key):
        check_key(key)
        if key not in self._kinds:
            raise UnknownRow(key)


def _check_integer(value):
    if not is_integer(value):
        raise InvalidNumber(value)


def _check_different_keys(keys):
    known = set()
    for at, key in enumerate(keys):
        if not is_key(key) or key in known:
            raise InvalidKeys(at)
        known.add(key)
