"""Behind how many copies a net is right for all offsets at once, and within which width."""

from whoseday.bands import MOST_WIDTH
from whoseday.days import MOST_COPIES
from whoseday.points import need_known
from whoseday.spreads import Course
from whoseday.words import need_number


def right_copies(net, p, entry, width):
    """The greatest number of copies behind which the net is right within a width; None if it is right."""
    need_known(net, p, entry)
    need_number(width, 0, MOST_WIDTH)
    if width == 0:
        return None
    course = Course(net, p, entry)
    stretches = course.stretches()
    sums, fresh = stretches.none_yet()
    many = 0
    best = None
    # As soon as one copy more makes no new sums, no more copies do.
    while fresh and (best is None or many < best):
        sums, fresh = stretches.longer(sums, fresh)
        many += 1
        for origin, number, _, copies in course.births:
            # The figures are greater by 1 than the sums.
            if stretches.tallies.reaches(sums[number], origin.room // width + 2):
                best = copies + many if best is None else min(best, copies + many)
    return None if best is None else best - 1


def widest_after(net, p, entry, n):
    """The greatest width within which the net is right behind n copies; None if it is so within all."""
    need_known(net, p, entry)
    need_number(n, 0, MOST_COPIES)
    course = Course(net, p, entry)
    stretches = course.stretches()
    bounds = []
    sums, fresh = stretches.none_yet()
    # An origin that comes about behind some copies has the others for its stretches.
    for born in range(n, -1, -1):
        for origin, number, _, copies in course.births:
            if copies == born:
                found = stretches.tallies.greatest_of(sums[number])[0] - 1
                if found > 0:
                    bounds.append(origin.room // found)
        if fresh:
            sums, fresh = stretches.longer(sums, fresh)
    return min(bounds, default=None)
