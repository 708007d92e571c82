"""The checker of certificates. It shares nothing but limits with the functions whose results it checks."""

from drawclaims.checker_claims import Question, are_claims, are_class_ladders, are_ladders, bound_at, first_size
from drawclaims.checker_claims import is_table, wrong_draws
from drawclaims.checker_counts import every_weight, is_up_to_above, weight_up_to
from drawclaims.checker_plans import are_alike, are_plan, are_rows, class_count, class_of
from drawclaims.checker_values import are_marks, is_from_size, is_part_pair, is_share_pair, is_tuple, is_whole
from drawclaims.limits import BOTTOM, OFFSET, SIZE


def _accepts_always(claim, certificate):
    _, rows, bottom, lines, share, from_size = claim
    if not are_claims(rows, bottom, lines) or not is_share_pair(share) or not is_from_size(from_size):
        return False
    return are_ladders(certificate, Question(rows, bottom, share, from_size, 0), lines)


def _accepts_fails(claim, certificate):
    _, rows, bottom, lines, share, size, marked = claim
    if not are_claims(rows, bottom, lines) or not is_share_pair(share) or not is_table(rows, size, marked):
        return False
    if not is_tuple(certificate, 0):
        return False
    wrong = wrong_draws(rows, bottom, lines, size, marked)
    return wrong * share[1] > share[0] * every_weight(size, len(rows) - 1, 1)


def _accepts_greatest(claim, certificate):
    _, rows, bottom, lines, from_size, top, size, marked = claim
    if not are_claims(rows, bottom, lines) or not is_from_size(from_size) or not is_part_pair(top):
        return False
    if not is_tuple(certificate, 2):
        return False
    above, beside = certificate
    if not _is_above_all(above, Question(rows, bottom, top, from_size, 0), lines):
        return False
    if size is None and marked is None:
        return _is_limit_only(beside, Question(rows, bottom, top, from_size, 1), lines)
    if not is_table(rows, size, marked) or size < from_size or not is_tuple(beside, 0):
        return False
    wrong = wrong_draws(rows, bottom, lines, size, marked)
    return wrong * top[1] == top[0] * every_weight(size, len(rows) - 1, 1)


def _is_above_all(above, question, lines):
    """Whether a value shows that no wrong share is greater than this one."""
    if question.share == (1, 1):
        return is_tuple(above, 0)
    return are_ladders(above, question, lines)


def _is_limit_only(beside, question, lines):
    """Whether a value shows that wrong shares come as near to this one as one likes, and do not reach it."""
    top, bottom = question.share
    if top == 0 or not is_tuple(beside, 2):
        return False
    number, ladders = beside
    if not is_whole(number, 0, len(lines) - 1):
        return False
    slope = lines[number][0]
    found = weight_up_to(question.rows, number, slope, question.bottom - slope, 0)
    if found * bottom != top * every_weight(question.bottom, len(question.rows) - 1, 0):
        return False
    return are_ladders(ladders, question, lines)


def _accepts_bounds(claim, certificate):
    _, rows, share, size, bounds = claim
    if not are_plan(rows) or not is_share_pair(share) or not is_table(rows, size, 0):
        return False
    if not is_tuple(certificate, 0) or not is_tuple(bounds, class_count(rows) - 1):
        return False
    return all([_is_least_bound(rows, number, share, size, bound) for number, bound in enumerate(bounds)])


def _is_least_bound(rows, number, share, size, bound):
    # With all rows marked there is no draw of these classes, so a bound that is above the share is below the size.
    if not is_whole(bound, 0, size) or not is_up_to_above(rows, number, share, size, bound):
        return False
    return not is_up_to_above(rows, number, share, size, bound + 1)


def _accepts_slope(claim, certificate):
    _, rows, number, bottom, offset, share, from_size, slope = claim
    if not are_plan(rows) or not is_whole(number, 0, class_count(rows) - 2):
        return False
    if not is_whole(bottom, 1, BOTTOM) or not is_whole(offset, 0, OFFSET) or not is_whole(slope, 0, bottom):
        return False
    if not is_share_pair(share) or not is_from_size(from_size) or not is_tuple(certificate, 2):
        return False
    ladders, size = certificate
    if not are_class_ladders(ladders, Question(rows, bottom, share, from_size, 0), number, (slope, offset)):
        return False
    if slope == 0:
        return size is None
    if not is_whole(size, first_size(rows, from_size), SIZE):
        return False
    # The offset is not below 0, so the bound is not either.
    marked = bound_at((slope - 1, offset), bottom, size) + 1
    return marked <= size and is_up_to_above(rows, number, share, size, marked)


def _accepts_alike(claim, certificate):
    _, rows, more = claim
    return are_plan(rows) and are_plan(more) and is_tuple(certificate, 0) and are_alike(rows, more)


def _accepts_unlike(claim, certificate):
    _, rows, more = claim
    if not are_plan(rows) or not are_plan(more):
        return False
    if not are_marks(certificate, max(len(rows), len(more)) - 1):
        return False
    return class_of(rows, certificate) != class_of(more, certificate)


def _accepts_sinking(claim, certificate):
    _, rows = claim
    if not are_rows(rows) or not is_tuple(certificate, 2):
        return False
    marks, place = certificate
    looked = len(rows) - 1
    if not are_marks(marks, looked) or not is_whole(place, 0, looked - 1) or marks[place] != 0:
        return False
    return class_of(rows, marks[:place] + (1,) + marks[place + 1:]) < class_of(rows, marks)


_RULES = {
    "always": _accepts_always,
    "fails": _accepts_fails,
    "greatest": _accepts_greatest,
    "bounds": _accepts_bounds,
    "slope": _accepts_slope,
    "alike": _accepts_alike,
    "unlike": _accepts_unlike,
    "sinking": _accepts_sinking,
}
# How many items a claim with this word has.
_LENGTHS = {
    "always": 6, "fails": 7, "greatest": 8, "bounds": 5, "slope": 8, "alike": 3, "unlike": 3, "sinking": 2,
}


def accepts(claim, certificate):
    """Whether the certificate shows that the claim is true; both may be any values."""
    if not isinstance(claim, tuple) or len(claim) == 0:
        return False
    word = claim[0]
    if not isinstance(word, str) or word not in _RULES or len(claim) != _LENGTHS[word]:
        return False
    rule = _RULES[word]
    return rule(claim, certificate)
