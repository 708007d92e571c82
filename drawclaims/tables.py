"""Tables that change, and plans that are run on them."""

from drawclaims.checks import check_key, check_mark, check_plan
from drawclaims.errors import InvalidNumber, KnownRow, NotATable, SameRank, UnknownRow
from drawclaims.kinds import is_integer_within
from drawclaims.rows import GO_ON

_MOST_RANK = 10 ** 9


class Table:
    """Rows with keys and ranks, marked or not."""

    def __init__(self):
        self.size = 0
        self.marked = 0
        self._marks = {}
        self._rank_of = {}
        self._stamps = {}
        self._given = 0
        self._key_at = {}
        self._ranks = []

    def put(self, key, rank, marked=False):
        """A new row."""
        check_key(key)
        if key in self._marks:
            raise KnownRow(key)
        if not is_integer_within(rank, -_MOST_RANK, _MOST_RANK):
            raise InvalidNumber(rank)
        if rank in self._key_at:
            raise SameRank(rank)
        check_mark(marked)
        self._rank_of[key] = rank
        self._key_at[rank] = key
        self._ranks.insert(_place_of(self._ranks, rank), rank)
        self.size += 1
        self._mark(key, marked)

    def drop(self, key):
        """Takes a row out."""
        self._check_known(key)
        rank = self._rank_of.pop(key)
        self._key_at.pop(rank)
        self._ranks.pop(_place_of(self._ranks, rank))
        self._stamps.pop(key)
        self.size -= 1
        if self._marks.pop(key):
            self.marked -= 1

    def change(self, key, marked):
        """From now on the row is marked or not."""
        self._check_known(key)
        check_mark(marked)
        if self._marks[key]:
            self.marked -= 1
        self._mark(key, marked)

    def mark_of(self, key):
        """Whether a row is marked."""
        self._check_known(key)
        return self._marks[key]

    def order(self):
        """Yields the keys in ascending order of the ranks."""
        for rank in self._ranks:
            yield self._key_at[rank]

    def stamp_of(self, key):
        """A number that this row was given when it was put or last changed, and no other one; None without the row."""
        return self._stamps.get(key)

    def _mark(self, key, marked):
        self._marks[key] = marked
        self._given += 1
        self._stamps[key] = self._given
        if marked:
            self.marked += 1

    def _check_known(self, key):
        check_key(key)
        if key not in self._marks:
            raise UnknownRow(key)


class Watch:
    """Runs a plan on a table, and reads no mark twice while it stays."""

    def __init__(self, table, plan):
        if not isinstance(table, Table):
            raise NotATable(table)
        self.table = table
        self.chosen = plan
        self.reads = 0
        self._seen = {}

    @property
    def chosen(self):
        """The plan that run uses."""
        return self._chosen

    @chosen.setter
    def chosen(self, value):
        check_plan(value)
        self._chosen = value

    def run(self):
        """The class, None if the rows end before the plan stops, and the number of rows that were looked at."""
        rows = self._chosen.rows
        m = k = 0
        for key in self.table.order():
            if rows[m][k] != GO_ON:
                break
            if self._read(key):
                k += 1
            m += 1
        return None if rows[m][k] == GO_ON else int(rows[m][k]), m

    def known(self):
        """The present rows with the marks that were read since they were put or last changed."""
        keys = sorted([int(key) for key in self._seen])
        return tuple([(key, self.table.mark_of(key)) for key in keys if self._knows(key)])

    def _knows(self, key):
        return key in self._seen and self._seen[key] == self.table.stamp_of(key)

    def _read(self, key):
        if not self._knows(key):
            self._seen[key] = self.table.stamp_of(key)
            self.reads += 1
        return self.table.mark_of(key)


def choose(watch, plan):
    """Assigns the plan that a watch runs."""
    watch.chosen = plan


def _place_of(ranks, rank):
    """The place of a rank among ascending ones, or the one at which it would stand."""
    low, high = 0, len(ranks)
    while low < high:
        middle = (low + high) // 2
        if ranks[middle] < rank:
            low = middle + 1
        else:
            high = middle
    return low
