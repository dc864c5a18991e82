"""Promise 1: what is refused, by which class, and in which turn."""

import unittest

from leapways.errors import BadCount, BadLeap, BadPlace, LeapError
from leapways.knights import fewest, places, shortest, within
from leapways.leaps import behind, eight, place_of
from leapways.ways import told
from tests.things import GREAT, NO_AMOUNTS, NO_COUNTS, NO_LEAPS, NO_PLACES, TOO_LONG_FOR_A_TEXT

LEAP = (1, 2)
COUNTS = [1, 2, 3, 4, 5, 6, 7, 8]


class Refusals(unittest.TestCase):
    def refused(self, kind, function, *handed):
        with self.assertRaises(kind) as caught:
            function(*handed)
        self.assertIs(type(caught.exception), kind)
        self.assertIsInstance(caught.exception, LeapError)
        self.assertIsInstance(caught.exception, ValueError)
        self.assertIsInstance(str(caught.exception), str)

    def test_no_leaps(self):
        for at, wrong in enumerate(NO_LEAPS):
            with self.subTest(at):
                self.refused(BadLeap, eight, wrong)
                self.refused(BadLeap, place_of, wrong, COUNTS)
                self.refused(BadLeap, behind, wrong, COUNTS, 1)
                self.refused(BadLeap, told, wrong, (3, 4))

    def test_no_places(self):
        for at, wrong in enumerate(NO_PLACES):
            with self.subTest(at):
                self.refused(BadPlace, told, LEAP, wrong)
                self.refused(BadPlace, fewest, wrong)
                self.refused(BadPlace, shortest, wrong)

    def test_no_counts(self):
        for at, wrong in enumerate(NO_COUNTS):
            with self.subTest(at):
                self.refused(BadCount, place_of, LEAP, wrong)
                self.refused(BadCount, behind, LEAP, wrong, 0)

    def test_no_amounts(self):
        for at, wrong in enumerate(NO_AMOUNTS):
            with self.subTest(at):
                self.refused(BadCount, behind, LEAP, COUNTS, wrong)
                self.refused(BadCount, places, wrong)
                self.refused(BadCount, within, wrong)

    def test_many_beyond_all_of_them_together(self):
        for counts in ([0] * 8, COUNTS, [GREAT] * 8, [0] * 7 + [TOO_LONG_FOR_A_TEXT]):
            everything = sum(counts)
            behind(LEAP, counts, everything)
            for more in (1, 2, 100, TOO_LONG_FOR_A_TEXT):
                self.refused(BadCount, behind, LEAP, counts, everything + more)

    def test_the_leap_is_refused_before_all_else(self):
        for wrong_leap in (None, (0, 0), (-1, 2), (True, 2), [1, 2], "ab"):
            for wrong in (None, True, [1], "ab", (1,), -1):
                self.refused(BadLeap, told, wrong_leap, wrong)
                self.refused(BadLeap, place_of, wrong_leap, wrong)
                self.refused(BadLeap, behind, wrong_leap, wrong, wrong)
                self.refused(BadLeap, behind, wrong_leap, COUNTS, wrong)

    def test_leaps_and_places_at_the_edge_are_taken(self):
        for leap in ((0, 1), (1, 0), (0, GREAT), (GREAT, 0), (1, 1)):
            self.assertEqual(len(eight(leap)), 8)
            for place in ((0, 0), (-1, -1), (0, -GREAT), (-GREAT, GREAT)):
                told(leap, place)
                fewest(place)
                shortest(place)
        self.assertEqual(place_of(LEAP, [0] * 8), (0, 0))
        self.assertEqual(places(0), 1)
        self.assertEqual(within(0), 1)
