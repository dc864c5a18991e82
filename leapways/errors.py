"""What is refused, each kind by a class of its own."""


class LeapError(ValueError):
    """Anything that Leapways refuses."""


class BadLeap(LeapError):
    """What was handed in as a leap is none."""


class BadPlace(LeapError):
    """What was handed in as a place is none."""


class BadCount(LeapError):
    """What was handed in as counts, or as how many, is none."""
