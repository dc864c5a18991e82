"""Promises 1 and 3: the eight leaps in their turn, and where counts lead."""

import unittest

from leapways.leaps import behind, eight, place_of
from tests.things import GREAT, at_once, only_plain, step_by_step, turn

LEAPS = [(1, 2), (2, 1), (1, 1), (0, 1), (1, 0), (3, 0), (0, 4), (2, 6), (5, 3), (4, 4)]
SMALL_COUNTS = [
    [0] * 8,
    [1] * 8,
    [1, 2, 3, 4, 5, 6, 7, 8],
    [0, 3, 0, 0, 2, 0, 0, 0],
    [0, 0, 0, 0, 0, 0, 0, 4],
    [5, 0, 0, 0, 0, 0, 0, 0],
    [2, 0, 1, 0, 0, 3, 0, 1],
]


class Eight(unittest.TestCase):
    def test_in_their_turn(self):
        self.assertEqual(
            eight((1, 2)), [(1, 2), (1, -2), (-1, 2), (-1, -2), (2, 1), (2, -1), (-2, 1), (-2, -1)]
        )

    def test_also_where_some_are_alike(self):
        self.assertEqual(
            eight((3, 3)), [(3, 3), (3, -3), (-3, 3), (-3, -3), (3, 3), (3, -3), (-3, 3), (-3, -3)]
        )
        self.assertEqual(eight((2, 0)), [(2, 0), (2, 0), (-2, 0), (-2, 0), (0, 2), (0, -2), (0, 2), (0, -2)])
        self.assertEqual(eight((0, 1)), [(0, 1), (0, -1), (0, 1), (0, -1), (1, 0), (1, 0), (-1, 0), (-1, 0)])

    def test_great_numbers(self):
        self.assertEqual(eight((GREAT, GREAT + 1)), turn(GREAT, GREAT + 1))

    def test_a_list_of_pairs_of_numbers(self):
        for leap in LEAPS:
            leaps = eight(leap)
            self.assertIs(type(leaps), list)
            self.assertEqual([type(pair) for pair in leaps], [tuple] * 8)
            self.assertTrue(only_plain(leaps))

    def test_the_list_is_the_askers_own(self):
        for leap in LEAPS:
            leaps = eight(leap)
            leaps[0] = None
            leaps.append((9, 9))
            self.assertEqual(eight(leap), turn(*leap))


class Places(unittest.TestCase):
    def test_where_counts_lead(self):
        for leap in LEAPS:
            for counts in SMALL_COUNTS:
                self.assertEqual(place_of(leap, counts), step_by_step(leap, counts)[-1])

    def test_each_leap_alone(self):
        for leap in LEAPS:
            for at in range(8):
                for count in (1, 2, GREAT):
                    along, across = turn(*leap)[at]
                    counts = [0] * at + [count] + [0] * (7 - at)
                    self.assertEqual(place_of(leap, counts), (count * along, count * across))

    def test_very_many(self):
        counts = [GREAT ** at for at in (1, 0, 3, 2, 1, 5, 2, 4)]
        for leap in LEAPS + [(GREAT, 3), (0, GREAT), (GREAT, GREAT)]:
            self.assertEqual(place_of(leap, counts), at_once(leap, counts))

    def test_behind_each_number_of_leaps(self):
        for leap in LEAPS:
            for counts in SMALL_COUNTS:
                stops = step_by_step(leap, counts)
                self.assertEqual([behind(leap, counts, many) for many in range(sum(counts) + 1)], stops)

    def test_behind_very_many(self):
        leap = (2, 5)
        counts = [GREAT, 0, 3, GREAT + 1, 0, 0, 10 * GREAT, 1]
        firsts = {
            0: [0] * 8,
            1: [1] + [0] * 7,
            GREAT - 1: [GREAT - 1] + [0] * 7,
            GREAT: [GREAT] + [0] * 7,
            GREAT + 2: [GREAT, 0, 2, 0, 0, 0, 0, 0],
            GREAT + 4: [GREAT, 0, 3, 1, 0, 0, 0, 0],
            2 * GREAT + 4: [GREAT, 0, 3, GREAT + 1, 0, 0, 0, 0],
            3 * GREAT + 4: [GREAT, 0, 3, GREAT + 1, 0, 0, GREAT, 0],
            12 * GREAT + 4: [GREAT, 0, 3, GREAT + 1, 0, 0, 10 * GREAT, 0],
            12 * GREAT + 5: counts,
        }
        for many, first in firsts.items():
            self.assertEqual(behind(leap, counts, many), at_once(leap, first))

    def test_a_pair_of_numbers(self):
        for leap in LEAPS:
            for counts in SMALL_COUNTS:
                for place in (place_of(leap, counts), behind(leap, counts, 0), behind(leap, counts, sum(counts))):
                    self.assertIs(type(place), tuple)
                    self.assertTrue(only_plain(place))

    def test_the_counts_stay_as_they_were(self):
        for counts in SMALL_COUNTS:
            handed = list(counts)
            place_of((1, 2), handed)
            for many in range(sum(counts) + 1):
                behind((1, 2), handed, many)
            self.assertEqual(handed, counts)

    def test_the_counts_are_not_kept(self):
        counts = [1, 0, 0, 0, 0, 0, 0, 0]
        self.assertEqual(place_of((1, 2), counts), (1, 2))
        counts[0] = 3
        self.assertEqual(place_of((1, 2), counts), (3, 6))
        self.assertEqual(behind((1, 2), counts, 2), (2, 4))
