"""The eight leaps of a leap, and where counts of them lead."""

from leapways.checks import need_amount, need_counts, need_leap
from leapways.errors import BadCount


def eight(leap):
    """The eight leaps in their turn, also where some of them are alike."""
    need_leap(leap)
    a, b = leap
    return [(a, b), (a, -b), (-a, b), (-a, -b), (b, a), (b, -a), (-b, a), (-b, -a)]


def place_of(leap, counts):
    """The place to which the counts lead."""
    need_leap(leap)
    need_counts(counts)
    x = 0
    y = 0
    for count, (along, across) in zip(counts, eight(leap)):
        x += count * along
        y += count * across
    return (x, y)


def behind(leap, counts, many):
    """The place behind the first so many leaps of the counts."""
    need_leap(leap)
    need_counts(counts)
    need_amount(many)
    if many > sum(counts):
        raise BadCount("the counts hold fewer leaps than that")
    return place_of(leap, first_of(counts, many))


def first_of(counts, many):
    """The counts of the first so many leaps alone."""
    done = []
    left = many
    for count in counts:
        here = min(count, left)
        done.append(here)
        left -= here
    return done
