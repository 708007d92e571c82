"""A console: claims that are kept, and lines of text that ask for what is true of them."""

from drawclaims.claims import Claims
from drawclaims.counting import class_counts
from drawclaims.errors import InvalidCommand, InvalidText, UnknownName
from drawclaims.greatest import greatest_share
from drawclaims.holding import sizes_where, worst
from drawclaims.kinds import is_integer_text
from drawclaims.least import least_bounds
from drawclaims.plans import Plan
from drawclaims.ratios import Ratio, is_share


def _say_count(claims, size, marked):
    return _joined(class_counts(claims.plan, size, marked))


def _say_wrong(claims, size, marked):
    return str(claims.wrong_share(size, marked))


def _say_worst(claims, size):
    return _joined(worst(claims, size))


def _say_where(claims, share):
    return "; ".join([_told_ranges(ranges) for ranges in sizes_where(claims, share).ranges])


def _say_greatest(claims):
    share, size, marked = greatest_share(claims)
    return f"{share} not reached" if size is None else f"{share} at {size} {marked}"


def _say_bounds(claims, share, size):
    return _joined(least_bounds(claims.plan, share, size))


_ACTIONS = {
    "count": _say_count,
    "wrong": _say_wrong,
    "worst": _say_worst,
    "where": _say_where,
    "greatest": _say_greatest,
    "bounds": _say_bounds,
}
# What kinds of words stand behind the first one.
_KINDS = {
    "count": ("integer", "integer"),
    "wrong": ("integer", "integer"),
    "worst": ("integer",),
    "where": ("share",),
    "greatest": (),
    "bounds": ("share", "integer"),
}


class Console:
    """Keeps claims, at first none."""

    def __init__(self):
        self.claims = None

    def say(self, line):
        """Executes a line and returns what there is to say."""
        if not isinstance(line, str):
            raise InvalidCommand(line)
        head, _, text = line.partition("; ")
        words = head.split(" ")
        if words[0] == "use":
            self.claims = _claims_of(line, words[1:], text)
            return "ok"
        if head != line or words[0] not in _ACTIONS:
            raise InvalidCommand(line)
        action = _ACTIONS[words[0]]
        values = _values_of(line, words[1:], _KINDS[words[0]])
        if self.claims is None:
            raise UnknownName("claims")
        return action(self.claims, *values)


def _claims_of(line, words, text):
    """The claims of a line, from the words behind the first one and the text of the plan."""
    if len(words) < 3 or len(words) % 2 == 0:
        raise InvalidCommand(line)
    bottom, *numbers = _values_of(line, words, ("integer",) * len(words))
    try:
        plan = Plan.read(text)
    except InvalidText:
        raise InvalidCommand(line) from None
    pairs = list(zip(numbers[::2], numbers[1::2]))
    return Claims(plan, bottom, *pairs)


def _values_of(line, words, kinds):
    if len(words) != len(kinds):
        raise InvalidCommand(line)
    return [_value_of(line, word, kind) for word, kind in zip(words, kinds)]


def _value_of(line, word, kind):
    if kind == "share":
        return _share_of(line, word)
    if not is_integer_text(word):
        raise InvalidCommand(line)
    return int(word)


def _share_of(line, word):
    try:
        share = Ratio.read(word)
    except InvalidText:
        raise InvalidCommand(line) from None
    if not is_share(share):
        raise InvalidCommand(line)
    return share


def _joined(items):
    return " ".join([str(item) for item in items])


def _told_ranges(ranges):
    return " ".join([_told_range(first, last) for first, last in ranges]) if ranges else "none"


def _told_range(first, last):
    return f"{first}-" if last is None else f"{first}-{last}"
