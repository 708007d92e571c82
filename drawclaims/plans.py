"""Plans: when to stop looking at rows, and with which class."""

from drawclaims.errors import InvalidMarks, InvalidNumber, InvalidRows, InvalidState, InvalidText, NotRising, TooFew
from drawclaims.kinds import is_integer_within
from drawclaims.limits import LONGEST
from drawclaims.rising import sinking_marks
from drawclaims.rows import GO_ON, NOT_REACHED, check_rows, curtailed_rows, flipped_rows
from drawclaims.rows import leads_table, looks_table, stops_of, ways_table
from drawclaims.shapes import check_limits, check_looks, fixed_rows, looks_rows


class Plan:
    """A rising plan; beside what the document lists it has stops: m, k, the class and the ways of each stop."""

    def __init__(self, *rows):
        check_rows(rows)
        found = sinking_marks(rows)
        if found is not None:
            marks, place = found
            raise NotRising(marks, place)
        self.rows = rows
        self.longest = len(rows) - 1
        self._leads = leads_table(rows)
        self._looks = looks_table(rows)
        self._ways = ways_table(rows)
        self.classes = len(self._leads[0][0])
        self.stops = stops_of(rows)

    @classmethod
    def read(cls, text):
        """The plan with this text, written as str does."""
        if not isinstance(text, str):
            raise InvalidText(text)
        rows = text.split(" ")
        try:
            return cls(*rows)
        except (InvalidRows, NotRising):
            raise InvalidText(text) from None

    @classmethod
    def fixed(cls, looked, *limits):
        """The plan that looks at so many rows; the class is the number of limits below that of the marked rows."""
        if not is_integer_within(looked, 1, LONGEST):
            raise InvalidNumber(looked)
        check_limits(limits, looked)
        rows = fixed_rows(looked, limits)
        return cls(*rows)

    @classmethod
    def looks(cls, *pairs):
        """The plan that stops with class 0 at the first look with at most the allowed number of marked rows."""
        check_looks(pairs)
        rows = looks_rows(pairs)
        return cls(*rows)

    def __call__(self, marks):
        _check_marks(marks)
        m = k = 0
        while self.rows[m][k] == GO_ON:
            if m == len(marks):
                raise TooFew(len(marks))
            k += marks[m]
            m += 1
        return int(self.rows[m][k]), m

    def leads(self, m, k):
        """The ascending tuple of the classes to which a state leads."""
        self._check_state(m, k)
        return self._leads[m][k]

    def settles(self, m, k):
        """The least and the greatest number of rows that are still looked at from a state."""
        self._check_state(m, k)
        return self._looks[m][k]

    def ways(self, m, k):
        """The number of ways to a state."""
        self._check_state(m, k)
        return self._ways[m][k]

    def curtailed(self):
        """The plan that stops as soon as the class is certain."""
        rows = curtailed_rows(self.rows)
        return Plan(*rows)

    def flipped(self):
        """The plan with marked and other rows exchanged."""
        rows = flipped_rows(self.rows, self.classes)
        return Plan(*rows)

    def _check_state(self, m, k):
        if not is_integer_within(m, 0, self.longest) or not is_integer_within(k, 0, m):
            raise InvalidState((m, k))
        if self.rows[m][k] == NOT_REACHED:
            raise InvalidState((m, k))

    def __eq__(self, other):
        return isinstance(other, Plan) and self.rows == other.rows

    def __str__(self):
        return " ".join(self.rows)

    def __repr__(self):
        return f"Plan({self.longest}, {self.classes})"


def _check_marks(marks):
    if not isinstance(marks, tuple):
        raise InvalidMarks(None)
    for at, mark in enumerate(marks):
        if not is_integer_within(mark, 0, 1):
            raise InvalidMarks(at)
