"""The two answers to whether a leap leads to a place; each can show that it is right."""

from leapways.checks import is_amount, is_counts
from leapways.leaps import place_of


class Answer:
    """A Way or a Never."""


class Way(Answer):
    """Counts that lead to the place."""

    def __init__(self, counts):
        self.counts = list(counts)

    def shows(self, leap, place):
        """Whether the counts, as they stand now, lead to the place."""
        return is_counts(self.counts) and place_of(leap, self.counts) == place


class Never(Answer):
    """A number that each leap keeps to, but the place does not."""

    def __init__(self, by):
        self.by = by

    def shows(self, leap, place):
        """Whether the number, as it stands now, bars the place."""
        if not is_amount(self.by) or self.by == 0:
            return False
        return bars_numbers(self.by, leap, place) or bars_sum(self.by, leap, place)


def bars_numbers(by, leap, place):
    """Whether it goes into both numbers of the leap, but not into both of the place."""
    return goes_into(by, leap[0], leap[1]) and not goes_into(by, place[0], place[1])


def bars_sum(by, leap, place):
    """Whether it goes into the leap's sum and difference, but not into the place's sum."""
    x, y = place
    return goes_into(by, leap[0] + leap[1], leap[0] - leap[1]) and (x + y) % by != 0


def goes_into(by, one, other):
    """Whether it goes into both."""
    return one % by == 0 and other % by == 0
