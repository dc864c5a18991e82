"""Promise 2: of a leap and a place a Way or a Never is told, never both."""

import unittest

from leapways.answers import Answer, Never, Way
from leapways.ways import told
from tests.things import GREAT, at_once, only_plain, rings

NEAR = [(x, y) for x in range(-7, 8) for y in range(-7, 8)]
SMALL_LEAPS = [(a, b) for a in range(0, 8) for b in range(0, 8) if (a, b) != (0, 0)]


class Told(unittest.TestCase):
    def answer(self, leap, place):
        """What is told, once it is held against the document's words."""
        answer = told(leap, place)
        self.assertIn(type(answer), (Way, Never))
        self.assertIsInstance(answer, Answer)
        self.assertIs(answer.shows(leap, place), True)
        if type(answer) is Way:
            self.assertIs(type(answer.counts), list)
            self.assertEqual(len(answer.counts), 8)
            self.assertTrue(only_plain(answer.counts))
            self.assertTrue(min(answer.counts) >= 0)
            self.assertEqual(at_once(leap, answer.counts), place)
            return answer
        self.assertIs(type(answer.by), int)
        self.assertTrue(answer.by > 0)
        by = answer.by
        numbers = all(n % by == 0 for n in leap) and any(n % by != 0 for n in place)
        sums = sum(leap) % by == 0 and (leap[0] - leap[1]) % by == 0 and sum(place) % by != 0
        self.assertTrue(numbers or sums)
        return answer

    def is_way(self, leap, place):
        return type(self.answer(leap, place)) is Way

    def test_small_leaps_to_near_places(self):
        for leap in SMALL_LEAPS:
            for place in NEAR:
                self.answer(leap, place)

    def test_a_way_just_where_a_walk_comes(self):
        for leap in ((1, 2), (2, 1), (1, 1), (0, 1), (1, 0), (2, 0), (0, 3), (2, 2), (1, 3), (2, 4), (2, 6), (3, 4)):
            walked = {place for ring in rings(leap, None, size=18) for place in ring}
            for place in NEAR:
                self.assertEqual(self.is_way(leap, place), place in walked)

    def test_a_common_number(self):
        self.assertTrue(self.is_way((6, 9), (3, 0)))
        self.assertTrue(self.is_way((6, 9), (-300, 333)))
        self.assertFalse(self.is_way((6, 9), (3, 1)))
        self.assertFalse(self.is_way((6, 9), (1, 3)))
        self.assertFalse(self.is_way((6, 9), (1, 2)))

    def test_alike_numbers(self):
        self.assertTrue(self.is_way((5, 5), (5, 5)))
        self.assertTrue(self.is_way((5, 5), (10, 0)))
        self.assertFalse(self.is_way((5, 5), (5, 0)))
        self.assertFalse(self.is_way((5, 5), (5, 6)))

    def test_a_0(self):
        for leap in ((0, 4), (4, 0)):
            self.assertTrue(self.is_way(leap, (-4, 8)))
            self.assertTrue(self.is_way(leap, (4, 0)))
            self.assertFalse(self.is_way(leap, (4, 2)))
            self.assertFalse(self.is_way(leap, (2, 4)))

    def test_both_odd(self):
        for leap in ((1, 3), (3, 5), (7, 1), (1, 1)):
            self.assertTrue(self.is_way(leap, (1, 1)))
            self.assertTrue(self.is_way(leap, (-2, 0)))
            self.assertFalse(self.is_way(leap, (1, 0)))
            self.assertFalse(self.is_way(leap, (2, -1)))
        self.assertFalse(self.is_way((6, 10), (2, 0)))
        self.assertTrue(self.is_way((6, 10), (2, 2)))

    def test_where_the_piece_begins(self):
        for leap in SMALL_LEAPS + [(GREAT, 0), (GREAT, GREAT - 1)]:
            self.assertTrue(self.is_way(leap, (0, 0)))

    def test_great_ones(self):
        far = [(GREAT, -GREAT), (3 * GREAT + 1, 0), (0, -(GREAT ** 3)), (2 ** 3000, -(3 ** 2000)), (1, 0), (1, 1)]
        for leap in ((GREAT, GREAT + 1), (GREAT + 1, GREAT), (1, GREAT - 1), (2 ** 2500, 3 ** 1500), (2, 3), (1, 2)):
            for place in far:
                self.assertTrue(self.is_way(leap, place))
        for place in ((GREAT, 5 * GREAT), (-GREAT, -GREAT), (2 * GREAT, -4 * GREAT)):
            self.assertTrue(self.is_way((GREAT, 3 * GREAT), place))
            self.assertTrue(self.is_way((GREAT, 0), place))
        for place in ((GREAT, 4 * GREAT), (GREAT, GREAT + 1), (GREAT - 1, GREAT), (0, 1)):
            self.assertFalse(self.is_way((GREAT, 3 * GREAT), place))
        self.assertTrue(self.is_way((0, GREAT), (GREAT ** 2, -GREAT)))
        self.assertFalse(self.is_way((0, GREAT), (GREAT ** 2, 1 - GREAT)))

    def test_long_chains_of_remainders(self):
        a, b = 1, 1
        for _ in range(6000):
            a, b = b, a + b
        self.assertTrue(self.is_way((a, b), (5, 7)))
        self.assertTrue(self.is_way((a, b), (5, -7)))

    def test_what_was_told_may_be_changed(self):
        first = told((1, 2), (5, 5))
        before = list(first.counts)
        first.counts[0] += 1
        first.counts.append(3)
        again = told((1, 2), (5, 5))
        self.assertEqual(again.counts, before)
        self.assertIsNot(again, first)
        barred = told((2, 4), (1, 0))
        barred.by = 99
        self.assertTrue(self.answer((2, 4), (1, 0)).by != 99)
