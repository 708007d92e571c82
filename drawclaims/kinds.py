"""What kind of value a value is."""

_LONGEST_NAME = 8
_MOST_KEY = 10 ** 9


def is_integer(value):
    """Whether a value is an integer; True and False are none."""
    return isinstance(value, int) and not isinstance(value, bool)


def is_integer_within(value, least, most):
    """Whether a value is an integer from the least to the most one."""
    return is_integer(value) and least <= value <= most


def is_key(value):
    """Whether a value is a key: an integer from 0 to 10 ** 9."""
    return is_integer_within(value, 0, _MOST_KEY)


def first_not_ascending(items, least, most):
    """The first index of an item that is no integer in this range or not greater than the one before, or None."""
    for at, item in enumerate(items):
        if not is_integer_within(item, least, most):
            return at
        least = item + 1
    return None


def is_name(value):
    """Whether a value is a name: one to eight letters from a to z, other than self."""
    if not isinstance(value, str) or len(value) > _LONGEST_NAME:
        return False
    return value.isascii() and value.isalpha() and value.islower() and value != "self"


def is_whole_text(text):
    """Whether a text is an integer from 0 on in decimal digits without leading zeros."""
    if not (text.isascii() and text.isdigit()):
        return False
    return text == "0" or not text.startswith("0")


def is_integer_text(text):
    """Whether a text is an integer in decimal digits without leading zeros, with a minus sign if it is less than 0."""
    return text != "-0" and is_whole_text(text.removeprefix("-"))
