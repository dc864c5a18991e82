"""Whether a leap leads to a place: a Way there, or a Never."""

from leapways.answers import Never, Way
from leapways.checks import need_leap, need_place


def told(leap, place):
    """A Way to the place, or a Never where none leads there."""
    need_leap(leap)
    need_place(place)
    common, of_a, of_b = common_of(leap[0], leap[1])
    if place[0] % common != 0 or place[1] % common != 0:
        return Never(common)
    a, b = leap[0] // common, leap[1] // common
    x, y = place[0] // common, place[1] // common
    if (a + b) % 2 == 0 and (x + y) % 2 != 0:
        return Never(2 * common)
    return Way(counts_to(evened(a, b, along_and_across(of_a, of_b, x, y))))


def common_of(a, b):
    """The greatest number that goes into a and b, and how many of a and of b make it up."""
    old, new = a, b
    old_a, new_a = 1, 0
    old_b, new_b = 0, 1
    while new != 0:
        times = old // new
        old, new = new, old - times * new
        old_a, new_a = new_a, old_a - times * new_a
        old_b, new_b = new_b, old_b - times * new_b
    return (old, old_a, old_b)


def along_and_across(of_a, of_b, x, y):
    """How many of a and of b lead x along, then how many of b and of a lead y across."""
    return (of_a * x, of_b * x, of_b * y, of_a * y)


def evened(a, b, parts):
    """The parts so changed, for the same place, that each kind of leap comes out whole."""
    # The leaps (a, b) and (a, -b) are p and q times done: p + q of a along, p - q of b across.
    # Both are whole only where these two are both odd or both even; likewise for b and a.
    # Taking b more of a and a less of b changes no place; a and b have no common number,
    # and told has barred the one case where no such change helps.
    a_along, b_along, b_across, a_across = parts
    ends_odd = (a_along - b_across) % 2
    sides_odd = (b_along - a_across) % 2
    if b % 2 == 0:
        more_along, more_across = sides_odd, ends_odd
    elif a % 2 == 0:
        more_along, more_across = ends_odd, sides_odd
    else:
        more_along, more_across = ends_odd, 0
    return (
        a_along + more_along * b,
        b_along - more_along * a,
        b_across + more_across * a,
        a_across - more_across * b,
    )


def counts_to(parts):
    """The counts, in the turn of the eight leaps, that do the parts."""
    a_along, b_along, b_across, a_across = parts
    p, q = (a_along + b_across) // 2, (a_along - b_across) // 2
    r, s = (b_along + a_across) // 2, (b_along - a_across) // 2
    # Fewer than 0 of a leap are as many of the leap that takes it back.
    return [max(0, many) for many in (p, q, -q, -p, r, s, -s, -r)]
