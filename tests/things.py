"""Wrong things of every kind, and what the tests work out by themselves."""

from decimal import Decimal
from fractions import Fraction

GREAT = 10 ** 700 + 7
# More digits than Python turns into a text.
TOO_LONG_FOR_A_TEXT = 10 ** 6000


class Like:
    """Calls itself equal to anything, and a whole number where asked."""

    def __eq__(self, other):
        return True

    def __hash__(self):
        return 0

    def __index__(self):
        return 1

    def __int__(self):
        return 1


class Mute:
    """Has no text."""

    def __repr__(self):
        raise RuntimeError("no text")

    __str__ = __repr__


NO_NUMBERS = [
    True, False, None, 0.0, 1.0, 2.5, float("nan"), float("inf"), 1j, Fraction(1), Decimal(1), "", "1", b"1",
    [], [1], (), (1,), {}, {1: 1}, set(), {1}, frozenset([1]), range(2), int, len, object(), Like(), Mute(), Ellipsis,
]
BELOW_0 = [-1, -2, -GREAT, -TOO_LONG_FOR_A_TEXT]
NO_AMOUNTS = NO_NUMBERS + BELOW_0

NO_PLACES = [
    0, 1, GREAT, [1, 2], [], (), (1,), (1, 2, 3), ((1, 2),), (1, (2,)), "12", b"12", {1: 1, 2: 2}, {1, 2}, range(1, 3),
    iter((1, 2)),
]
NO_PLACES += NO_NUMBERS
NO_PLACES += [(wrong, 1) for wrong in NO_NUMBERS] + [(1, wrong) for wrong in NO_NUMBERS]
NO_PLACES += [(wrong, 0) for wrong in NO_NUMBERS] + [(0, wrong) for wrong in NO_NUMBERS]

NO_LEAPS = NO_PLACES + [(0, 0), (-1, -1), (-1, 0), (0, -1), (0, True), (True, 0), (True, True), (False, False)]
NO_LEAPS += [(wrong, 2) for wrong in BELOW_0] + [(2, wrong) for wrong in BELOW_0]

NO_COUNTS = [
    (1, 2, 3, 4, 5, 6, 7, 8), (0,) * 8, [], [0] * 7, [0] * 9, [[0] * 8], "12345678", b"12345678", range(8),
    {at: at for at in range(8)}, set(range(8)), iter([0] * 8), 0, 8,
]
NO_COUNTS += NO_NUMBERS
NO_COUNTS += [[0] * at + [wrong] + [0] * (7 - at) for wrong in NO_AMOUNTS for at in range(8)]


def turn(a, b):
    """The eight leaps, written out as the document has them."""
    return [(a, b), (a, -b), (-a, b), (-a, -b), (b, a), (b, -a), (-b, a), (-b, -a)]


def step_by_step(leap, counts):
    """Every place on the way, the first and the last among them, one leap at a time."""
    stops = [(0, 0)]
    for count, (along, across) in zip(counts, turn(*leap)):
        for _ in range(count):
            x, y = stops[-1]
            stops.append((x + along, y + across))
    return stops


def at_once(leap, counts):
    """The place to which any counts lead, summed up."""
    leaps = turn(*leap)
    return tuple(sum(count * leap[at] for count, leap in zip(counts, leaps)) for at in (0, 1))


def rings(leap, many, size=None):
    """Lists of the places that need just 0, 1, .. leaps, walked; up to a ring or within a size of the board."""
    seen = {(0, 0)}
    ring = [(0, 0)]
    found = []
    while ring and (many is None or len(found) <= many):
        found.append(ring)
        ahead = []
        for x, y in ring:
            for along, across in turn(*leap):
                place = (x + along, y + across)
                if place not in seen and (size is None or max(abs(place[0]), abs(place[1])) <= size):
                    seen.add(place)
                    ahead.append(place)
        ring = ahead
    return found


def only_plain(thing):
    """Whether it is made of nothing but plain whole numbers, tuples and lists."""
    if type(thing) in (tuple, list):
        return all(only_plain(part) for part in thing)
    return type(thing) is int
