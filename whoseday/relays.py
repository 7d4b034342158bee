"""What programs hold that get it from one another again and again, along the same rows.

A move is what copies do with a point of one form: a pair (more, rest). The
point gets more minutes; if rest is not None it goes back to the beginning of
its day then, and gets rest minutes. So one move and then another one are a
move, too, and a million of them are found by few.
"""

from whoseday.entries import DAY
from whoseday.points import Copier


class Relay:
    """Many turns, in each of which each program gets what one of them had, copied along a row.

    rows leads from each program to the pair (that one, the row). What a program
    holds is told by kind, zone and the minutes of both points.
    """

    def __init__(self, net, rows, many):
        self._copiers = (Copier(net, 0), Copier(net, 1))
        self._rows = rows
        # By levels: what stands at a level is of twice as many turns as at the one below it.
        self._givers = [{q: row[0] for q, row in rows.items()}]
        self._runs = [{}]
        self._ways = {q: self._way_to(q, _levels(many)) for q in rows}
        self._found = {}

    def handed(self, held):
        """What all programs hold behind the turns, if this is what they hold ahead of them."""
        return {q: self._got(q, held[way[-1][1]]) for q, way in self._ways.items()}

    def _got(self, q, held):
        """What q holds behind the turns, of what was held where it comes from."""
        kind, zone, first, last = held
        key = (q, kind, zone)
        if key not in self._found:
            run = (kind, zone, (0, None), (0, None))
            for level, goal in self._ways[q][-2::-1]:
                run = _joined_runs(run, self._run(level, goal, run[0], run[1]))
            self._found[key] = run
        kind, zone, early, late = self._found[key]
        return kind, zone, _moved(early, first), _moved(late, last)

    def _way_to(self, q, levels):
        """Pairs (level, program), q first: each gets what the next one had, in the turns of its level.

        The level of the last one is None.
        """
        way = []
        for level in levels:
            way.append((level, q))
            while len(self._givers) <= level:
                below = self._givers[-1]
                self._givers.append({goal: below[giver] for goal, giver in below.items()})
                self._runs.append({})
            q = self._givers[level][q]
        return [*way, (None, q)]

    def _run(self, level, q, kind, zone):
        """Kind, zone and moves behind the turns of a level to q, from what is held where it comes from."""
        key = (q, kind, zone)
        runs = self._runs[level]
        if key not in runs:
            if level == 0:
                runs[key] = self._run_along(self._rows[q][1], kind, zone)
            else:
                half = self._run(level - 1, self._givers[level - 1][q], kind, zone)
                runs[key] = _joined_runs(half, self._run(level - 1, q, half[0], half[1]))
        return runs[key]

    def _run_along(self, row, kind, zone):
        """Kind, zone and moves behind the copies along a row."""
        run = (kind, zone, (0, None), (0, None))
        for q in row:
            steps = [copier.effect(q, run[0], run[1]) for copier in self._copiers]
            early, late = [(more, 0 if rounds else None) for _, _, more, rounds in steps]
            run = _joined_runs(run, (*steps[0][:2], early, late))
        return run


def _levels(many):
    """The levels whose turns are many together, ascending."""
    found = []
    level = 0
    while many > 0:
        if many % 2 == 1:
            found.append(level)
        many //= 2
        level += 1
    return found


def _moved(move, minutes):
    """The minutes of a point behind a move."""
    more, rest = move
    minutes += more
    return minutes if rest is None else minutes - minutes % DAY + rest


def _joined(one, other):
    """The move that is one move and then another one."""
    if one[1] is None:
        return one[0] + other[0], other[1]
    return one[0], _moved(other, one[1])


def _joined_runs(one, other):
    """Kind, zone and moves of one run and then another one."""
    return other[0], other[1], _joined(one[2], other[2]), _joined(one[3], other[3])
