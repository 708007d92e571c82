"""What the checker should accept, by the functions of the program, and changes of claims and certificates."""

from drawclaims.certificates import certify_sinking
from drawclaims.claims import Claims
from drawclaims.comparing import same_classes
from drawclaims.counting import draws, up_to
from drawclaims.errors import InputError, NotRising
from drawclaims.greatest import greatest_share, limit_share
from drawclaims.holding import holds_always
from drawclaims.least import least_bounds, least_slopes
from drawclaims.plans import Plan
from drawclaims.ratios import Ratio, is_share
from drawclaims.series import ladder_of
from tests.helpers import OTHER, same
from tests.reference import run


class Wrong(Exception):
    """No certificate is right for this claim, or not this one."""


def demand(holds):
    if not holds:
        raise Wrong


def is_int(value, least, most):
    return type(value) is int and least <= value <= most


def plan_of(rows):
    demand(type(rows) is tuple)
    return Plan(*rows)


def claims_of(rows, bottom, lines):
    demand(type(lines) is tuple)
    return Claims(plan_of(rows), bottom, *lines)


def ratio_of(pair):
    demand(type(pair) is tuple and len(pair) == 2)
    ratio = Ratio(*pair)
    demand(ratio.bottom == pair[1])
    return ratio


def share_of(pair):
    ratio = ratio_of(pair)
    demand(is_share(ratio))
    return ratio


def start_of(plan, from_size):
    demand(is_int(from_size, 1, 10 ** 30))
    return max(plan.longest, from_size)


def ladder_at(plan, number, bottom, line, rest, ratio, start, less):
    """The ladder of the series of a class and a rest, as point 18 tells it."""
    t = max(0, (start - rest + bottom - 1) // bottom)
    size = bottom * t + rest
    while (line[0] * size + line[1]) // bottom >= size:
        if line[0] == bottom:
            return ()
        size += bottom
    values = []
    for place in range(plan.longest + 1):
        here = size + bottom * place
        marked = (line[0] * here + line[1]) // bottom + 1
        demand(marked >= 0)
        values.append(ratio.top * draws(plan, here) - ratio.bottom * up_to(plan, number, here, marked) - less)
    return ladder_of(tuple(values))


def class_ladders(plan, number, bottom, line, ratio, start, less=0):
    found = tuple(ladder_at(plan, number, bottom, line, rest, ratio, start, less) for rest in range(bottom))
    demand(all(ladder == () or ladder[-1] == ((0, 1),) for ladder in found))
    return found


def ladders(claims, ratio, start, less=0):
    return tuple(
        class_ladders(claims.plan, number, claims.bottom, line, ratio, start, less) for number, line in enumerate(claims.lines)
    )


def always_is_right(certificate, rows, bottom, lines, share, from_size):
    claims, ratio = claims_of(rows, bottom, lines), share_of(share)
    start = start_of(claims.plan, from_size)
    holds = holds_always(claims, ratio, from_size=from_size)
    found = ladders(claims, ratio, start)
    assert holds
    return same(certificate, found)


def fails_is_right(certificate, rows, bottom, lines, share, size, marked):
    return same(certificate, ()) and claims_of(rows, bottom, lines).wrong_share(size, marked) > share_of(share)


def greatest_is_right(certificate, rows, bottom, lines, from_size, top, size, marked):
    claims, ratio = claims_of(rows, bottom, lines), ratio_of(top)
    start = start_of(claims.plan, from_size)
    demand(0 <= ratio <= 1 and type(certificate) is tuple and len(certificate) == 2)
    above, beside = certificate
    demand(same(above, () if ratio == 1 else ladders(claims, ratio, start)))
    share, least, _ = greatest_share(claims, from_size=from_size)
    if size is None and marked is None:
        demand(ratio > 0 and type(beside) is tuple and len(beside) == 2)
        demand(same(beside[1], ladders(claims, ratio, start, 1)))
        demand(limit_share(claims, beside[0]) == ratio)
        assert share == ratio and least is None
        return True
    demand(claims.wrong_share(size, marked) == ratio and size >= start and same(beside, ()))
    assert share == ratio and least <= size
    return True


def bounds_is_right(certificate, rows, share, size, bounds):
    return same(certificate, ()) and same(bounds, least_bounds(plan_of(rows), share_of(share), size))


def slope_is_right(certificate, rows, number, bottom, offset, share, from_size, slope):
    plan, ratio = plan_of(rows), share_of(share)
    demand(is_int(number, 0, plan.classes - 2))
    wanted = least_slopes(plan, ratio, bottom, offset=offset, from_size=from_size)[number]
    demand(same(slope, wanted) and type(certificate) is tuple and len(certificate) == 2)
    start = start_of(plan, from_size)
    demand(same(certificate[0], class_ladders(plan, number, bottom, (slope, offset), ratio, start)))
    size = certificate[1]
    if slope == 0 or size is None:
        return slope == 0 and size is None
    demand(is_int(size, start, 10 ** 150))
    marked = ((slope - 1) * size + offset) // bottom + 1
    return marked <= size and Ratio(up_to(plan, number, size, marked), draws(plan, size)) > ratio


def alike_is_right(certificate, rows, more):
    return same_classes(plan_of(rows), plan_of(more)) and same(certificate, ())


def unlike_is_right(certificate, rows, more):
    plan, other = plan_of(rows), plan_of(more)
    found = plan(certificate)[0] != other(certificate)[0] if marks_fit(certificate, max(plan.longest, other.longest)) else False
    assert not found or not same_classes(plan, other)
    return found


def marks_fit(marks, many):
    return type(marks) is tuple and len(marks) == many and all(is_int(mark, 0, 1) for mark in marks)


def sinking_is_right(certificate, rows):
    try:
        plan_of(rows)
    except NotRising:
        demand(type(certificate) is tuple and len(certificate) == 2)
        marks, place = certificate
        demand(marks_fit(marks, len(rows) - 1) and is_int(place, 0, len(rows) - 2) and marks[place] == 0)
        more = marks[:place] + (1,) + marks[place + 1:]
        found = run(rows, more)[0] < run(rows, marks)[0]
        assert not found or certify_sinking(*rows) is not None
        return found
    return False


RULES = {
    "always": (6, always_is_right), "fails": (7, fails_is_right), "greatest": (8, greatest_is_right),
    "bounds": (5, bounds_is_right), "slope": (8, slope_is_right), "alike": (3, alike_is_right),
    "unlike": (3, unlike_is_right), "sinking": (2, sinking_is_right),
}


def is_right(claim, certificate):
    if type(claim) is not tuple or not claim or type(claim[0]) is not str or claim[0] not in RULES:
        return False
    length, rule = RULES[claim[0]]
    if len(claim) != length:
        return False
    try:
        return rule(certificate, *claim[1:])
    except (InputError, Wrong):
        return False


def deep(levels):
    value = 1
    for _ in range(levels):
        value = (value,)
    return value


ANY_PARTS = (
    None, True, False, 0, 1, -1, 2, 10 ** 30, 10 ** 150, 10 ** 299, -10 ** 299, "", "0", "-", "always", b"", b"-", (), (0,), (0, 1), (1, 1), ((0, 1),), [], [0, 1],
    {}, {0: 1}, Ratio(0), Ratio(1), Ratio(1, 2), Plan.fixed(2, 0), Claims(Plan.fixed(1, 0), 1, (1, 0)), OTHER, Plan, deep(60), tuple(range(3000)),
)


def places_in(value, path=()):
    """The paths to all parts of nested tuples."""
    yield path
    if type(value) is tuple:
        for at, item in enumerate(value):
            yield from places_in(item, path + (at,))


def part_at(value, path):
    for at in path:
        value = value[at]
    return value


def with_part(value, path, part):
    if not path:
        return part
    return value[:path[0]] + (with_part(value[path[0]], path[1:], part),) + value[path[0] + 1:]


def changed(source, part):
    """Another part, near to this one or of any kind."""
    choices = [source.choice(ANY_PARTS)]
    if isinstance(part, int):
        choices += [part + 1, part - 1, -part, part == 1, part != 0, 2 * part + 1, str(part), (part,), Ratio(int(part)), 1 - part, part + source.randint(-9, 99)]
    if isinstance(part, str):
        at = source.randint(0, max(len(part) - 1, 0))
        choices += [part.upper(), part.capitalize(), part[:-1], part + source.choice("-01."), list(part), part.encode(), part[::-1]]
        choices += [part[:at] + source.choice("-.01234567 ") + part[at + 1:]] * 4
    if isinstance(part, tuple):
        at = source.randint(0, max(len(part) - 1, 0))
        choices += [list(part), part[:-1], part[1:], part + (0,), part[::-1], (part,), dict(enumerate(part)), part + part[-1:], part[:at] + part[at + 1:]]
        choices += [part[:at] + part[at:at + 1] + part[at:], str(part)]
    return source.choice(choices)


def changed_once(source, pair):
    """A pair of a claim and a certificate with one part that is another one."""
    places = list(places_in(pair))[1:]
    path = source.choice(places)
    if source.random() < 0.5:
        # In great certificates few parts belong to the claim.
        path = source.choice([place for place in places if place[0] == 0])
    return with_part(pair, path, changed(source, part_at(pair, path)))
