"""Sets of integers that are told by their turns: the ascending places at which they begin, end, begin again, .."""

# For an integer in none of two sets, in the left one only, in the right one only, and in both.
BOTH = (False, False, False, True)
EITHER = (False, True, True, True)
LEFT_ONLY = (False, True, False, False)


def without_pairs(places):
    """The turns that are left where equal neighbours take one another away."""
    turns = []
    for place in places:
        if turns and turns[-1] == place:
            turns.pop()
        else:
            turns.append(place)
    return turns


def joined_turns(left, right, keeps):
    """The turns of the set that keeps an integer or not, by the two sets that it is in."""
    # The last bit tells the side, so that the places of both sides are sorted as integers.
    codes = [2 * place for place in left] + [2 * place + 1 for place in right]
    places = []
    state = 0
    for code in sorted([int(number) for number in codes]):
        before = keeps[state]
        state = state ^ (1 + code % 2)
        if keeps[state] != before:
            places.append(code // 2)
    return without_pairs(places)


def turns_at(turns, modulus, rest):
    """The turns of the members with this rest."""
    return without_pairs([place + (rest - place) % modulus for place in turns])


def is_inside(turns, place):
    """Whether an integer is in the set."""
    return _passed(turns, place) % 2 == 1


def member_from(turns, place):
    """The integer itself if it is in the set, otherwise the next turn at which the set begins, or None."""
    passed = _passed(turns, place)
    if passed % 2 == 1:
        return place
    return turns[passed] if passed < len(turns) else None


def _passed(turns, place):
    return len([turn for turn in turns if turn <= place])
