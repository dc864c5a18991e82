"""Promise 4: the knight's fewest leaps, and how many places lie so many leaps away."""

import unittest

from leapways.answers import Way
from leapways.knights import fewest, places, shortest, within
from tests.things import GREAT, at_once, only_plain, rings, turn

RINGS = rings((1, 2), 40)
FAR = [
    (GREAT, 0), (0, -GREAT), (GREAT, GREAT), (-GREAT, GREAT - 1), (2 * GREAT, GREAT), (2 * GREAT + 1, GREAT),
    (-GREAT, 2 * GREAT - 1), (GREAT, 5), (7, -3 * GREAT), (GREAT ** 2, GREAT), (10 ** 5, 10 ** 5 + 1), (123456, -654321),
]
FAR_MOVED = [(x + along, y + across) for x, y in FAR for along in range(-2, 3) for across in range(-2, 3)]


class Fewest(unittest.TestCase):
    def test_against_a_walk(self):
        for many, ring in enumerate(RINGS):
            for place in ring:
                self.assertEqual(fewest(place), many)

    def test_known_ones(self):
        known = {(0, 0): 0, (1, 0): 3, (1, 1): 2, (2, 0): 2, (2, 1): 1, (2, 2): 4, (3, 0): 3, (3, 3): 2, (4, 4): 4}
        for (x, y), many in known.items():
            for place in turn(x, y):
                self.assertEqual(fewest(place), many)

    def test_far_places(self):
        # Only the fewest are 0 at (0, 0) alone and elsewhere 1 more than at the best place one leap off.
        for x, y in FAR_MOVED:
            ahead = [fewest((x + along, y + across)) for along, across in turn(1, 2)]
            self.assertEqual(fewest((x, y)), min(ahead) + 1)
            self.assertTrue(max(ahead) <= fewest((x, y)) + 1)

    def test_far_known_ones(self):
        self.assertEqual(fewest((4 * GREAT, 0)), 2 * GREAT)
        self.assertEqual(fewest((4 * GREAT, 2 * GREAT)), 2 * GREAT)
        self.assertEqual(fewest((-3 * GREAT, 3 * GREAT)), 2 * GREAT)
        self.assertEqual(fewest((GREAT, -2 * GREAT)), GREAT)

    def test_a_number(self):
        for place in RINGS[0] + RINGS[1] + RINGS[2] + FAR:
            self.assertIs(type(fewest(place)), int)


class Shortest(unittest.TestCase):
    def check(self, place, many):
        way = shortest(place)
        self.assertIs(type(way), Way)
        self.assertIs(way.shows((1, 2), place), True)
        self.assertIs(type(way.counts), list)
        self.assertEqual(len(way.counts), 8)
        self.assertTrue(only_plain(way.counts))
        self.assertTrue(min(way.counts) >= 0)
        self.assertEqual(sum(way.counts), many)
        self.assertEqual(at_once((1, 2), way.counts), place)

    def test_against_a_walk(self):
        for many, ring in enumerate(RINGS):
            for place in ring:
                self.check(place, many)

    def test_far_places(self):
        for place in FAR_MOVED:
            self.check(place, fewest(place))

    def test_what_was_told_may_be_changed(self):
        for place in ((0, 0), (1, 0), (1, 1), (2, 2), (3, 0), (5, -4), (GREAT, 3)):
            first = shortest(place)
            before = list(first.counts)
            first.counts[0] += 1
            first.counts.append(1)
            self.assertEqual(shortest(place).counts, before)


class Places(unittest.TestCase):
    def test_against_a_walk(self):
        together = 0
        for many, ring in enumerate(RINGS):
            together += len(ring)
            self.assertEqual(places(many), len(ring))
            self.assertEqual(within(many), together)

    def test_known_ones(self):
        self.assertEqual([places(many) for many in range(7)], [1, 8, 32, 68, 96, 120, 148])
        self.assertEqual([within(many) for many in range(7)], [1, 9, 41, 109, 205, 325, 473])

    def test_great_numbers(self):
        # From 5 on the walk's rings grow by 28 each.
        step = len(RINGS[7]) - len(RINGS[6])
        self.assertEqual({len(RINGS[n + 1]) - len(RINGS[n]) for n in range(5, 40)}, {step})
        for many in (41, 100, 10 ** 9, GREAT, GREAT ** 3):
            self.assertEqual(places(many), len(RINGS[5]) + step * (many - 5))
            self.assertEqual(within(many) - within(many - 1), places(many))
        # The sum of all rings from 5 to GREAT, as the first and the last of them on average.
        rest = (places(5) + places(GREAT)) * (GREAT - 4) // 2
        self.assertEqual(within(GREAT), sum(len(ring) for ring in RINGS[:5]) + rest)

    def test_numbers(self):
        for many in (0, 1, 2, 3, 4, 5, 6, GREAT):
            self.assertIs(type(places(many)), int)
            self.assertIs(type(within(many)), int)
