"""Pieces of sets of days: their next members, and the sums of two sets.

Operators of the sets call what stands here, so nothing that is passed is changed.
"""

from math import gcd

TURNED = {"one": "one", "up": "down", "down": "up", "every": "every"}


def turned(piece):
    """The piece of the members of a piece with their signs turned."""
    return (TURNED[piece[0]], -piece[1], *piece[2:])


def next_up(piece, low):
    """The least member of a piece that is not less than low; None if there is none."""
    word, start = piece[:2]
    if word in ("one", "up") and low <= start:
        return start
    if word == "one" or (word == "down" and low > start):
        return None
    return low + (start - low) % piece[2]


def next_down(piece, high):
    """The greatest member of a piece that is not greater than high; None if there is none."""
    day = next_up(turned(piece), -high)
    return None if day is None else -day


def all_sums(one, other):
    """Pieces of the set of all sums of a member of one set and a member of another one."""
    upward = _upward_sums(one, other)
    downward = _upward_sums([turned(piece) for piece in one], [turned(piece) for piece in other])
    found = {}
    for mine in one:
        for yours in other:
            if mine[0] != yours[0] or mine[0] not in ("up", "down"):
                found[_plain_sum(mine, yours)] = True
    return [*list(found), *upward, *[turned(piece) for piece in downward]]


def _plain_sum(mine, yours):
    """The piece of all sums of two pieces that do not go on in one direction only."""
    start = mine[1] + yours[1]
    if mine[0] == "one":
        return (yours[0], start, *yours[2:])
    if yours[0] == "one":
        return (mine[0], start, *mine[2:])
    step = gcd(mine[2], yours[2])
    return ("every", start % step, step)


def _upward_sums(one, other):
    """Pieces of all sums of two members of pieces that go on upward."""
    pairs = sorted([
        (min(mine[2], yours[2]), mine[1] + yours[1], max(mine[2], yours[2]))
        for mine in one if mine[0] == "up" for yours in other if yours[0] == "up"
    ])
    found = []
    for step in sorted({pair[0] for pair in pairs}):
        starts = _least_sums(step, [(start, wide) for narrow, start, wide in pairs if narrow == step])
        found.extend([("up", start, step) for start in starts if start is not None])
    return found


def _least_sums(step, pairs):
    """For each rest by step the least of all start + k * wide with it; None if there is none.

    The pairs are (start, wide). Each of these sums has a sum above it for each
    multiple of step, so the least ones tell all of them.
    """
    least = [None for _ in range(step)]
    bound = None
    for start, wide in pairs:
        turns = step // gcd(step, wide)
        for day in range(start, start + turns * wide, wide):
            # Beyond the bound no rest has a sum that is less than its least one.
            if bound is not None and day >= bound:
                break
            rest = day % step
            if least[rest] is None or day < least[rest]:
                least[rest] = day
        if None not in least:
            bound = max(least)
    return least
