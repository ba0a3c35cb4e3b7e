"""Loops: the numbers of walks that lead back to where they began."""

from breadcrumbs.checks import check_number
from breadcrumbs.errors import InvalidPagesError
from breadcrumbs.sites import MOST_STEPS, check_page, check_pages, check_site


def closed_walks(site, page, barred, most):
    """Return the numbers of walks from the page to itself past the barred pages, by steps."""
    check_site(site)
    check_page(site, page)
    check_pages(site, barred)
    if page in barred:
        raise InvalidPagesError("the page itself is barred")
    check_number(most, 0, MOST_STEPS)
    return count_closed(site, page, barred, most)


def loop_parts(site, pages, most):
    """Return for each page the numbers of its closed walks, the pages before it barred."""
    check_site(site)
    check_pages(site, pages)
    check_number(most, 0, MOST_STEPS)
    return [count_closed(site, page, pages[:index], most) for index, page in enumerate(pages)]


def loop_numbers(site, pages, most):
    """Return the loop numbers of the pages, by steps."""
    parts = loop_parts(site, pages, most)
    numbers = [1] + [0] * most
    for part in parts:
        numbers = joined_numbers(numbers, part)
    return numbers


def count_closed(site, page, barred, most):
    """Return the numbers of closed walks, as closed_walks does, of checked values."""
    links = [[] if source in barred else row for source, row in enumerate(site)]
    # The numbers of walks from each page to this one, with ever more steps.
    ways = [1 if source == page else 0 for source in range(len(site))]
    found = []
    for _ in range(most + 1):
        found.append(ways[page])
        ways = one_step_more(links, ways)
    return found


def one_step_more(links, ways):
    """Return for each page the number of ways that begin with a step to another page."""
    return [sum([ways[after] for after in row]) for row in links]


def joined_numbers(one, two):
    """Return the numbers of pairs, one of each kind, by the steps of both together."""
    return [sum([first * second for first, second in zip(one, two[steps::-1])]) for steps in range(len(one))]
