"""How often each member has been passed over since last having had the key."""


def passed_over(candidates, takers, keeper):
    """The candidates who are neither among the takers nor the keeper."""
    return tuple([member for member in candidates if member not in takers and member != keeper])


def next_passes(members, passes, candidates, takers, keeper, most):
    """The passes after a round, at most `most` for those who are passed over."""
    passed = passed_over(candidates, takers, keeper)
    after = []
    for member, number in zip(members, passes):
        if member in takers or member == keeper:
            after.append(0)
        elif member in passed:
            after.append(min(number + 1, most))
        else:
            after.append(number)
    return tuple(after)


def first_over(members, passes, passed, limit):
    """The first of those who are passed over whose passes have reached the limit, None if there is none."""
    if limit is None:
        return None
    for member in passed:
        if passes[members.index(member)] >= limit:
            return member
    return None


def longest(members, passes, candidates):
    """The first candidate with the most passes, the empty string if there are no candidates."""
    if len(candidates) == 0:
        return ""
    numbers = [passes[members.index(member)] for member in candidates]
    return candidates[numbers.index(max(numbers))]
