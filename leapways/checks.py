"""What is a number, a leap, a place or counts, and the refusal of what is none."""

# The messages name no value: a text of it may fail, as for numbers of very many digits.

from leapways.errors import BadCount, BadLeap, BadPlace


def is_whole(thing):
    """Whether it is a whole number; True and False are none."""
    return isinstance(thing, int) and not isinstance(thing, bool)


def is_amount(thing):
    """Whether it is a whole number from 0 on."""
    return is_whole(thing) and thing >= 0


def is_place(thing):
    """Whether it is a pair of whole numbers."""
    return isinstance(thing, tuple) and len(thing) == 2 and is_whole(thing[0]) and is_whole(thing[1])


def is_leap(thing):
    """Whether it is a pair of whole numbers from 0 on, not both 0."""
    return is_place(thing) and min(thing) >= 0 and max(thing) > 0


def is_counts(thing):
    """Whether it is a list of eight whole numbers from 0 on."""
    return isinstance(thing, list) and len(thing) == 8 and all([is_amount(count) for count in thing])


def need_leap(thing):
    """Refuse what is no leap."""
    if not is_leap(thing):
        raise BadLeap("a leap is a pair of whole numbers from 0 on, not both 0")


def need_place(thing):
    """Refuse what is no place."""
    if not is_place(thing):
        raise BadPlace("a place is a pair of whole numbers")


def need_counts(thing):
    """Refuse what is no counts."""
    if not is_counts(thing):
        raise BadCount("counts are a list of eight whole numbers from 0 on")


def need_amount(thing):
    """Refuse what is no whole number from 0 on."""
    if not is_amount(thing):
        raise BadCount("how many is a whole number from 0 on")
