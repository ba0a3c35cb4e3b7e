"""Checks of values, and a choice by an index, that several files share."""

from breadcrumbs.errors import InvalidNumberError

PAGES = 40
# The most visits where visits are only counted or told by an index.
MOST_TIMES = 200


def is_int(value):
    """Tell whether any value is an integer; True and False are none."""
    return isinstance(value, int) and not isinstance(value, bool)


def is_between(value, low, high):
    """Tell whether any value is an integer from low to high."""
    return is_int(value) and low <= value <= high


def are_pages(value, many):
    """Tell whether any value is a list of integers from 0 to many - 1."""
    return isinstance(value, list) and all([is_between(item, 0, many - 1) for item in value])


def are_different_pages(value, many):
    """Tell whether any value is a list of different integers from 0 to many - 1."""
    return are_pages(value, many) and len(set(value)) == len(value)


def check_number(value, low, high):
    """Raise an error unless the value is an integer from low to high."""
    if not is_between(value, low, high):
        raise InvalidNumberError("not an integer within its limits")


def place_of(numbers, index):
    """Return the place of the number into which the index falls, and the index within this number.

    The numbers tell how many things there are of each kind, one kind behind the other.
    """
    place = 0
    while index >= numbers[place]:
        index -= numbers[place]
        place += 1
    return (place, index)
