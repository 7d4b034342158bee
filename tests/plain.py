"""Copies told as the document tells them, one entry at a time, and walks by them.

Nothing here asks the package how to copy: it is what the package is held against.
"""

from whoseday.entries import Entry
from whoseday.nets import Net

KINDS = ("day", "float", "zoned", "fixed")
ZONED_RULES = ["keep", "own day", "home day", "own float", "home float", "as if", "moved", "fixed"]


def held(entry):
    return entry.kind, entry.zone, entry.first, entry.last


def text_of(kind, zone, first, last):
    return f"{kind} {first} to {last}" + ("" if zone is None else f" {zone}")


def plain_clock(net, p, entry):
    """The shown clocks of (kind, zone, first, last); None for a day."""
    kind, zone, first, last = entry
    more = 0
    if kind == "day":
        return None
    if kind == "zoned":
        more = net.offset_of(net.home_of(p)) - net.offset_of(zone)
    if kind == "fixed":
        more = net.offset_of(net.home_of(p))
    return first + more, last + more


def plain_shown(net, p, entry):
    clocks = plain_clock(net, p, entry)
    return entry[2:] if clocks is None else (clocks[0] // 1440, clocks[1] // 1440)


def plain_copy(net, q, entry):
    """What q holds when it copies (kind, zone, first, last)."""
    kind, zone, first, last = entry
    home = net.home_of(q)
    h = net.offset_of(home)
    rule = net.rule_of(q, kind)
    if rule == "keep":
        return entry
    if kind == "day":
        goal, early, late = rule.split()
        first, last = 1440 * first + int(early), 1440 * last + int(late)
        if goal == "float":
            return "float", None, first, last
        if goal == "zoned":
            return "zoned", home, first, last
        return "fixed", None, first - h, last - h
    z = net.offset_of(zone) if kind == "zoned" else None

    def both(make):
        return make(first), make(last)

    return {
        ("float", "day"): lambda: ("day", None, *both(lambda m: m // 1440)),
        ("float", "zoned"): lambda: ("zoned", home, first, last),
        ("float", "fixed"): lambda: ("fixed", None, *both(lambda m: m - h)),
        ("zoned", "own day"): lambda: ("day", None, *both(lambda m: m // 1440)),
        ("zoned", "home day"): lambda: ("day", None, *both(lambda m: (m - z + h) // 1440)),
        ("zoned", "own float"): lambda: ("float", None, first, last),
        ("zoned", "home float"): lambda: ("float", None, *both(lambda m: m - z + h)),
        ("zoned", "as if"): lambda: ("zoned", home, first, last),
        ("zoned", "moved"): lambda: ("zoned", home, *both(lambda m: m - z + h)),
        ("zoned", "fixed"): lambda: ("fixed", None, *both(lambda m: m - z)),
        ("fixed", "day"): lambda: ("day", None, *both(lambda u: (u + h) // 1440)),
        ("fixed", "float"): lambda: ("float", None, *both(lambda u: u + h)),
        ("fixed", "zoned"): lambda: ("zoned", home, *both(lambda u: u + h)),
    }[kind, rule]()


def plain_along(net, walk, entry):
    """What is held on a walk, as (kind, zone, first, last)."""
    found = [entry]
    for q in walk[1:]:
        found.append(plain_copy(net, q, found[-1]))
    return found


def plain_state(p, entry, end):
    kind, zone, *values = entry
    return p, kind, zone, 0 if kind == "day" else values[end] % 1440


def plain_states(net, p, entry, end, most=5000):
    """The states in their order and the steps, gone through one after the other."""
    found = [plain_state(p, entry, end)]
    steps = []
    at = 0
    while at < len(found):
        program, kind, zone, rest = found[at]
        row = []
        for q in net.targets_of(program):
            here = (kind, zone, rest, rest)
            there = plain_copy(net, q, here)
            state = plain_state(q, there, end)
            if state not in found:
                found.append(state)
            days = plain_shown(net, q, there)[end] - plain_shown(net, program, here)[end]
            row.append((found.index(state), days, q))
        steps.append(tuple(row))
        at += 1
        if len(found) > most:
            raise RuntimeError("too many")
    return found, steps


def plain_reach(steps, bound):
    """All pairs (state, days) that walks from state 0 lead to within a bound, and the copies to each."""
    found = {(0, 0): 0}
    line = [(0, 0)]
    for node, days in line:
        for goal, more, _ in steps[node]:
            pair = (goal, days + more)
            if pair not in found and abs(pair[1]) <= bound:
                found[pair] = found[node, days] + 1
                line.append(pair)
    return found


def gone(test, net, p, entry, end, blocks, most=100000):
    """Goes along a walk in blocks: (program, what is held, moved days); checks what blocks are."""
    test.assertIsInstance(blocks, tuple)
    first_day = plain_shown(net, p, entry)[end]
    names = 0
    for block in blocks:
        test.assertIsInstance(block, tuple)
        row, times = block
        test.assertIsInstance(row, tuple)
        test.assertIs(type(times), int)
        test.assertGreaterEqual(times, 1)
        test.assertGreaterEqual(len(row), 1)
        names += len(row)
        before, ahead = plain_state(p, entry, end), entry
        p, entry = gone_row(test, net, p, entry, row)
        if times > 1:
            test.assertEqual(plain_state(p, entry, end), before)
            more = [(late - early) * (times - 1) for early, late in zip(ahead[2:], entry[2:])]
            entry = (*entry[:2], *[value + many for value, many in zip(entry[2:], more)])
    test.assertLessEqual(names, most)
    return p, entry, plain_shown(net, p, entry)[end] - first_day


def gone_row(test, net, p, entry, row):
    for q in row:
        test.assertIn((p, q), net.routes)
        entry = plain_copy(net, q, entry)
        p = q
    return p, entry


def random_rule(rng, kind):
    if rng.random() < 0.25:
        return "keep"
    if kind == "day":
        early, late = sorted([rng.choice([0, 1, 5, 300, 720, 1100, 1438, 1439]) for _ in range(2)])
        return f"{rng.choice(['float', 'zoned', 'fixed'])} {early} {late}"
    if kind == "zoned":
        return rng.choice(ZONED_RULES)
    return rng.choice([one for one in ("day", "float", "zoned", "fixed") if one != kind])


def random_net(rng, programs=4, zones=3, routes=7, step=360):
    """A net whose offsets are multiples of step, so that there are not many states."""
    lines = []
    for zone in "abcdef"[:zones]:
        lines.append(f"zone {zone} {step * rng.randint(-(840 // step), 840 // step)}")
    names = ["p", "q", "r", "s", "t", "u", "v", "w"][:programs]
    for name in names:
        lines.append(f"program {name} at {rng.choice('abcdef'[:zones])}")
        for kind in KINDS:
            if rng.random() < 0.8:
                lines.append(f"  {kind} -> {random_rule(rng, kind)}")
    pairs = [(one, other) for one in names for other in names]
    rng.shuffle(pairs)
    for one, other in pairs[:routes]:
        lines.append(f"route {one} {other}")
    return Net("\n".join(lines))


def random_entry(rng, net, step=360):
    kind = rng.choice(KINDS)
    if kind == "day":
        first = rng.randint(-3, 3)
        return Entry(f"day {first} to {first + rng.randint(0, 2)}")
    first = step * rng.randint(-6, 6) + rng.choice([0, 0, 1, -1, 100])
    last = first + rng.choice([0, 1, 59, 719, 1440])
    zone = f" {rng.choice(net.zones)}" if kind == "zoned" else ""
    return Entry(f"{kind} {first} to {last}{zone}")


def turning_net(rng, programs=4, routes=8):
    """A net in which days become moments and moments days, so that days are gained and lost."""
    lines = [f"zone {zone} {rng.choice([-840, -719, -300, 0, 1, 300, 721, 840])}" for zone in "abcd"]
    names = ["p", "q", "r", "s", "t", "u", "v", "w"][:programs]
    for name in names:
        lines.append(f"program {name} at {rng.choice('abcd')}")
        if rng.random() < 0.8:
            early, late = sorted([rng.choice([0, 300, 720, 1439]) for _ in range(2)])
            lines.append(f"  day -> fixed {early} {late}")
        if rng.random() < 0.8:
            lines.append("  fixed -> day")
    pairs = [(one, other) for one in names for other in names]
    rng.shuffle(pairs)
    for one, other in pairs[:routes]:
        lines.append(f"route {one} {other}")
    return Net("\n".join(lines))


def random_rows(rng, most=8, wide=3):
    """A graph whose rows are (goal, cost, name), with rings of all sorts."""
    many = rng.randint(1, most)
    share = rng.choice([0.15, 0.2, 0.3, 0.5])
    sign = rng.choice([-1, 0, 0, 1, 1, -1])
    rows = []
    for _ in range(many):
        row = []
        for goal in range(many):
            if rng.random() < share:
                cost = 0 if rng.random() < 0.3 else rng.randint(-wide, wide)
                if sign != 0 and rng.random() < 0.9:
                    cost = sign * abs(cost)
                row.append((goal, cost, "x"))
        rows.append(tuple(row))
    return rows
