"""The knight's fewest leaps to a place, and how many places lie so many leaps away."""

from leapways.answers import Way
from leapways.checks import need_amount, need_place
from leapways.leaps import eight

KNIGHT = (1, 2)

# The folded places that straight_leaps does not lead to, with fewest leaps that do.
NEAR = {
    (1, 0): ((2, 1), (-2, 1), (1, -2)),
    (1, 1): ((2, -1), (-1, 2)),
    (2, 2): ((2, -1), (2, -1), (-1, 2), (-1, 2)),
    (3, 0): ((2, 1), (2, 1), (-1, -2)),
}

# How many places need just 0, 1, 2, 3 leaps; from the first of each on, a rule tells it.
PLACES_FIRST = (1, 8, 32, 68, 96)
WITHIN_FIRST = (1, 9, 41, 109)


def fewest(place):
    """The fewest leaps that lead to the place."""
    need_place(place)
    far, near = folded(place)
    return least(far, near)


def shortest(place):
    """A Way to the place of as few leaps as can be."""
    need_place(place)
    far, near = folded(place)
    turn = eight(KNIGHT)
    counts = [0] * 8
    for many, leap in leaps_to(far, near):
        counts[turn.index(unfolded(leap, place))] += many
    return Way(counts)


def folded(place):
    """The place's numbers without their signs, the greater one first."""
    x, y = abs(place[0]), abs(place[1])
    return (max(x, y), min(x, y))


def unfolded(leap, place):
    """The leap that stands towards the place as the given one does towards the folded place."""
    along, across = leap
    x, y = place
    if abs(x) < abs(y):
        along, across = across, along
    if x < 0:
        along = -along
    if y < 0:
        across = -across
    return (along, across)


def least(far, near):
    """The fewest leaps that lead to the folded place."""
    if (far, near) in NEAR:
        return len(NEAR[(far, near)])
    # A leap goes at most 2 one way and 3 both ways together, and changes whether their sum is odd.
    many = max((far + 1) // 2, (far + near + 2) // 3)
    return many + (many + far + near) % 2


def leaps_to(far, near):
    """Pairs of how many and of which leap, the fewest that lead to the folded place."""
    if (far, near) in NEAR:
        return [(1, leap) for leap in NEAR[(far, near)]]
    return straight_leaps(far, near, least(far, near))


def straight_leaps(far, near, many):
    """So many leaps to the folded place, none of which goes back along."""
    narrow = 2 * many - far
    wide = many - narrow
    # If all went up across, they would come too far by twice this; a narrow leap that goes down
    # instead takes away two of it, a wide one takes away one.
    over = (2 * narrow + wide - near) // 2
    narrow_down = min(narrow, over // 2)
    wide_down = over - 2 * narrow_down
    return [
        (narrow - narrow_down, (1, 2)),
        (narrow_down, (1, -2)),
        (wide - wide_down, (2, 1)),
        (wide_down, (2, -1)),
    ]


def places(many):
    """How many places need just so many leaps at the fewest."""
    need_amount(many)
    if many < len(PLACES_FIRST):
        return PLACES_FIRST[many]
    return 28 * many - 20


def within(many):
    """How many places need no more than so many leaps."""
    need_amount(many)
    if many < len(WITHIN_FIRST):
        return WITHIN_FIRST[many]
    return 14 * many * many - 6 * many + 5
