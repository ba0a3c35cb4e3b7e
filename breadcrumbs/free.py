"""Free visits: each page may be visited at any time, and the trails are counted by their lengths."""

from math import gcd, perm

from breadcrumbs.checks import MOST_TIMES, PAGES, check_number


def count_free(many, times, length):
    """Return the number of lists of so many visits that have a given trail with so many pages."""
    check_number(many, 1, PAGES)
    check_number(times, 0, MOST_TIMES)
    check_number(length, 0, many)
    # No page is special, so all trails with so many pages have equally many lists.
    return free_by_length(many, times)[length] // perm(many, length)


def free_by_length(many, times):
    """Return the numbers of all lists whose trails have 0, 1, .. and many pages."""
    check_number(many, 1, PAGES)
    check_number(times, 0, MOST_TIMES)
    numbers = [1] + [0] * many
    for _ in range(times):
        numbers = _one_visit_more(numbers)
    return numbers


def mean_length(many, times):
    """Return the mean length of the trails of all lists, as a tuple (top, bottom) in lowest terms."""
    numbers = free_by_length(many, times)
    top = sum([length * number for length, number in enumerate(numbers)])
    bottom = sum(numbers)
    shared = gcd(top, bottom)
    return (top // shared, bottom // shared)


def _one_visit_more(numbers):
    """Return the numbers of lists by the lengths of their trails, from those with one visit less."""
    many = len(numbers) - 1
    after = [0] * (many + 1)
    # From each trail that is at least so long, the visit of one page leads to this length.
    cut = 0
    for length in reversed(range(1, many + 1)):
        cut += numbers[length]
        new_pages = many - (length - 1)
        after[length] = cut + numbers[length - 1] * new_pages
    return after
