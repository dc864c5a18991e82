"""Promise 2: whether an answer made by hand shows what it says."""

import unittest

from leapways.answers import Never, Way
from tests.things import GREAT, at_once, step_by_step

WAYS = [
    ((1, 2), [0] * 8, (0, 0), True),
    ((1, 2), [0] * 8, (1, 0), False),
    ((1, 2), [1, 0, 0, 0, 0, 0, 0, 0], (1, 2), True),
    ((1, 2), [1, 0, 0, 0, 0, 0, 0, 0], (2, 1), False),
    ((2, 1), [1, 0, 0, 0, 0, 0, 0, 0], (2, 1), True),
    ((1, 2), [0, 0, 0, 0, 0, 0, 0, 1], (-2, -1), True),
    ((1, 2), [0, 0, 0, 0, 0, 0, 0, 1], (-2, 1), False),
    ((1, 2), [5] * 8, (0, 0), True),
    ((1, 2), [5] * 7 + [4], (2, 1), True),
    ((0, 3), [0, 2, 0, 0, 1, 0, 0, 0], (3, -6), True),
    ((0, 3), [0, 2, 0, 0, 1, 0, 0, 0], (3, 6), False),
    ((4, 4), [1, 1, 0, 0, 0, 0, 0, 0], (8, 0), True),
    ((1, GREAT), [GREAT, 0, 0, 0, 0, 0, 0, 0], (GREAT, GREAT * GREAT), True),
    ((1, GREAT), [GREAT, 0, 0, 0, 0, 0, 0, 0], (GREAT, GREAT * GREAT + 1), False),
    # These are no counts: too few, too many, or one below 0.
    ((1, 2), [], (0, 0), False),
    ((1, 2), [1], (1, 2), False),
    ((1, 2), [0] * 7, (0, 0), False),
    ((1, 2), [0] * 9, (0, 0), False),
    ((1, 2), [1, 0, 0, 0, 0, 0, 0, 0, 0], (1, 2), False),
    ((1, 2), [1, 0, 0, 0, 0, 0, 0, 0, 7], (1, 2), False),
    ((1, 2), [-1, 0, 0, 0, 0, 0, 0, 0], (-1, -2), False),
    ((1, 2), [0, 0, 0, 0, 0, 0, 0, -1], (2, 1), False),
    ((1, 2), [0, 0, 0, -GREAT, 0, 0, 0, 0], (GREAT, 2 * GREAT), False),
    ((1, 2), [-1, 0, 0, -1, 0, 0, 0, 0], (0, 0), False),
]

NEVERS = [
    # Into both numbers of the leap, but not into both of the place.
    (2, (2, 4), (1, 0), True),
    (2, (2, 4), (0, 1), True),
    (2, (2, 4), (1, 1), True),
    (2, (2, 4), (-3, 5), True),
    (2, (2, 4), (2, 2), False),
    (2, (2, 4), (0, 0), False),
    (2, (2, 4), (-6, 4), False),
    (3, (3, 6), (3, 1), True),
    (3, (3, 6), (1, 3), True),
    (3, (3, 6), (1, 2), True),
    (3, (3, 6), (-3, 9), False),
    (5, (0, 5), (5, 4), True),
    (5, (5, 0), (4, 5), True),
    (5, (0, 5), (5, 10), False),
    # Into one number of the leap alone.
    (3, (3, 4), (1, 0), False),
    (4, (3, 4), (1, 0), False),
    (2, (2, 3), (1, 0), False),
    # Into the leap's sum and its difference, but not into the place's sum.
    (2, (1, 3), (1, 0), True),
    (2, (3, 1), (0, -1), True),
    (2, (1, 1), (2, 3), True),
    (2, (1, 3), (1, 1), False),
    (2, (1, 3), (-1, 3), False),
    (2, (1, 3), (0, 0), False),
    (4, (2, 2), (2, 0), True),
    (4, (2, 2), (2, 2), False),
    (4, (2, 6), (2, 0), True),
    (6, (3, 3), (3, 0), True),
    (3, (3, 3), (3, 0), False),
    (4, (6, 2), (1, 2), True),
    (4, (6, 2), (1, 3), False),
    # Into the sum alone, or into the difference alone.
    (5, (2, 3), (1, 0), False),
    (3, (1, 2), (1, 0), False),
    (3, (5, 2), (1, 0), False),
    (3, (2, 5), (1, 0), False),
    (4, (1, 3), (1, 0), False),
    # 1 goes into everything; no number above 0.
    (1, (2, 4), (1, 0), False),
    (1, (1, 3), (1, 0), False),
    (0, (2, 4), (1, 0), False),
    (0, (1, 1), (1, 0), False),
    (-1, (2, 4), (1, 0), False),
    (-2, (2, 4), (1, 0), False),
    (-2, (1, 3), (1, 0), False),
    (-GREAT, (GREAT, 0), (1, 0), False),
    (2, (1, 2), (1, 0), False),
    # Great ones.
    (GREAT, (GREAT, 2 * GREAT), (GREAT, GREAT + 1), True),
    (GREAT, (GREAT, 2 * GREAT), (GREAT, -GREAT), False),
    (2 * GREAT, (GREAT, GREAT), (2 * GREAT, 3 * GREAT), True),
    (2 * GREAT, (GREAT, GREAT), (GREAT, 3 * GREAT), False),
    (3 * GREAT, (GREAT, 2 * GREAT), (1, 0), False),
    (GREAT ** 2, (GREAT, GREAT), (1, 0), False),
]


class Ways(unittest.TestCase):
    def test_right_and_wrong_ones(self):
        for leap, counts, place, right in WAYS:
            with self.subTest((str(counts)[:40], str(place)[:40])):
                self.assertIs(Way(counts).shows(leap, place), right)

    def test_every_place_near_the_right_one(self):
        for leap in ((1, 2), (3, 3), (0, 2)):
            for counts in ([1, 2, 3, 4, 5, 6, 7, 8], [0, 0, 3, 0, 0, 1, 0, 0]):
                x, y = step_by_step(leap, counts)[-1]
                for along in range(-3, 4):
                    for across in range(-3, 4):
                        right = along == 0 and across == 0
                        self.assertIs(Way(counts).shows(leap, (x + along, y + across)), right)

    def test_very_many(self):
        leap = (GREAT, 3)
        counts = [GREAT ** at for at in range(8)]
        x, y = at_once(leap, counts)
        self.assertIs(Way(counts).shows(leap, (x, y)), True)
        self.assertIs(Way(counts).shows(leap, (x, y + 1)), False)
        self.assertIs(Way(counts).shows(leap, (x - 1, y)), False)

    def test_after_the_field_was_changed(self):
        way = Way([1, 0, 0, 0, 0, 0, 0, 0])
        self.assertIs(way.shows((1, 2), (1, 2)), True)
        way.counts[4] += 1
        self.assertIs(way.shows((1, 2), (1, 2)), False)
        self.assertIs(way.shows((1, 2), (3, 3)), True)
        way.counts = [0, 1, 0, 0, 0, 0, 0, 0]
        self.assertIs(way.shows((1, 2), (3, 3)), False)
        self.assertIs(way.shows((1, 2), (1, -2)), True)
        way.counts.append(0)
        self.assertIs(way.shows((1, 2), (1, -2)), False)
        way.counts.pop()
        self.assertIs(way.shows((1, 2), (1, -2)), True)
        way.counts[0] = -1
        self.assertIs(way.shows((1, 2), (0, -4)), False)

    def test_the_list_is_a_copy(self):
        handed = [1, 2, 3, 4, 5, 6, 7, 8]
        way = Way(handed)
        self.assertEqual(way.counts, handed)
        self.assertIsNot(way.counts, handed)
        handed[0] = 9
        self.assertEqual(way.counts, [1, 2, 3, 4, 5, 6, 7, 8])
        way.counts[1] = 10
        self.assertEqual(handed, [9, 2, 3, 4, 5, 6, 7, 8])

    def test_asking_changes_nothing(self):
        for leap, counts, place, _ in WAYS:
            way = Way(counts)
            way.shows(leap, place)
            self.assertEqual(vars(way), {"counts": counts})


class Nevers(unittest.TestCase):
    def test_right_and_wrong_ones(self):
        for by, leap, place, right in NEVERS:
            with self.subTest((str(by)[:40], str(leap)[:40], str(place)[:40])):
                self.assertIs(Never(by).shows(leap, place), right)

    def test_all_small_ones(self):
        for by in range(-2, 9):
            for leap in ((1, 2), (2, 4), (1, 3), (0, 3), (4, 0), (2, 2), (3, 9), (6, 4)):
                for x in range(-4, 5):
                    for y in range(-4, 5):
                        self.assertIs(Never(by).shows(leap, (x, y)), bars(by, leap, x, y))

    def test_after_the_field_was_changed(self):
        never = Never(2)
        self.assertIs(never.shows((2, 4), (1, 0)), True)
        never.by = 3
        self.assertIs(never.shows((2, 4), (1, 0)), False)
        never.by = 0
        self.assertIs(never.shows((2, 4), (1, 0)), False)
        never.by = 2
        self.assertIs(never.shows((2, 4), (1, 0)), True)
        self.assertEqual(vars(never), {"by": 2})


def bars(by, leap, x, y):
    """Promise 2's words about Never, with the multiples listed."""
    if by <= 0:
        return False
    multiples = [by * times for times in range(-40, 41)]
    a, b = leap
    numbers = a in multiples and b in multiples and not (x in multiples and y in multiples)
    sums = a + b in multiples and a - b in multiples and x + y not in multiples
    return numbers or sums
