"""At which sizes claims hold with a share, whatever the rows are."""

from drawclaims.checks import check_from_size, check_share, check_size
from drawclaims.claims import check_claims
from drawclaims.counting import count_up_to, draws
from drawclaims.polynomials import heads_of, ladder_from
from drawclaims.ratios import Ratio
from drawclaims.sizes import Sizes
from drawclaims.strands import strands_of
from drawclaims.turns import without_pairs


def worst(claims, size):
    """The greatest wrong share at a size, and the least number of marked rows with it."""
    check_claims(claims)
    check_size(claims.plan, size)
    most = least_marked = 0
    for number in range(claims.plan.classes - 1):
        marked = max(0, claims.bound(number, size) + 1)
        if marked <= size:
            found = count_up_to(claims.plan, number, size, marked)
            if found > most:
                most = found
                least_marked = marked
    return Ratio(most, draws(claims.plan, size)), least_marked


def holds_at(claims, share, size):
    """Whether claims hold at a size with a share."""
    check_claims(claims)
    check_share(share)
    return worst(claims, size)[0] <= share


def sizes_where(claims, share, *, from_size=1):
    """The set of the sizes from the longest look and from_size on at which claims hold with a share."""
    check_claims(claims)
    check_share(share)
    check_from_size(from_size)
    start = first_size(claims.plan, from_size)
    found = Sizes.span(start)
    for number, line in enumerate(claims.lines):
        strands = strands_of(claims.plan, number, claims.bottom, line, start)
        found = found & Sizes(claims.bottom, [_turns_of(strand, share) for strand in strands])
    return found


def holds_always(claims, share, *, from_size=1):
    """Whether claims hold at all these sizes with a share."""
    check_claims(claims)
    check_share(share)
    check_from_size(from_size)
    start = first_size(claims.plan, from_size)
    for number, line in enumerate(claims.lines):
        if not class_holds(claims.plan, number, claims.bottom, line, share, start):
            return False
    return True


def failing(claims, share, *, from_size=1):
    """The least of these sizes at which claims do not hold, and the worst number of marked rows there, or None."""
    held = sizes_where(claims, share, from_size=from_size)
    start = first_size(claims.plan, from_size)
    size = (Sizes.span(start) - held).after(start)
    return None if size is None else (size, worst(claims, size)[1])


def first_size(plan, from_size):
    """The least size that is at least the longest look and this size."""
    return max(int(plan.longest), from_size)


def class_holds(plan, number, bottom, line, share, start):
    """Whether a class is wrong for at most this share of the draws, with this line and at all sizes from the start."""
    for strand in strands_of(plan, number, bottom, line, start):
        if _turns_of(strand, share) != [strand.size_of(strand.first)]:
            return False
    return True


def class_failing(plan, number, bottom, line, share, start):
    """The least size from the start on at which a class is wrong for more of the draws, None if there is none."""
    held = Sizes(bottom, [_turns_of(strand, share) for strand in strands_of(plan, number, bottom, line, start)])
    return (Sizes.span(start) - held).after(start)


def _turns_of(strand, share):
    """The turns of the sizes at which the class of the strand is wrong for at most this share of the draws."""
    places = [strand.first]
    if strand.below is not None:
        places.append(strand.below)
    if strand.sound is not None:
        series = strand.series_from(strand.sound, share.top, share.bottom)
        runs = ladder_from(heads_of(series))[-1]
        # Signs alternate; only a first run below 0 is no turn.
        places.extend([strand.sound + start for start, sign in runs if start > 0 or sign > 0])
    return [strand.size_of(place) for place in without_pairs(places)]
