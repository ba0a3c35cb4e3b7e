"""Trails, and what each visit does to them."""

from breadcrumbs.checks import PAGES, are_different_pages, are_pages
from breadcrumbs.errors import InvalidTrailError, InvalidVisitsError

MOST_VISITS = 300


def is_visits(value):
    """Tell whether any value is visits."""
    return are_pages(value, PAGES) and len(value) <= MOST_VISITS


def is_trail(value):
    """Tell whether any value is a trail."""
    return are_different_pages(value, PAGES)


def trail_after(visits, *, start=None):
    """Return the trail after the visits; start is the trail before them."""
    check_visits(visits)
    trail = []
    if start is not None:
        check_trail(start)
        trail = list(start)
    for page in visits:
        trail = visited(trail, page)
    return trail


def trails_along(visits):
    """Yield the trails after each visit."""
    check_visits(visits)
    trail = []
    for page in list(visits):
        trail = visited(trail, page)
        # A copy, because the caller may change what is yielded.
        yield list(trail)


def stays(visits):
    """Return a tuple (index, page, end) for each visit that put its page into the trail."""
    check_visits(visits)
    ends = {}
    trail = []
    for index, page in enumerate(visits):
        inside = [visits[start] for start in trail]
        if page in inside:
            length = inside.index(page) + 1
            for start in trail[length:]:
                ends[start] = index
            trail = trail[:length]
        else:
            ends[index] = None
            trail.append(index)
    return [(start, visits[start], end) for start, end in ends.items()]


def cuts(visits):
    """Return a tuple (index, removed) for each visit of a page in the trail."""
    check_visits(visits)
    found = []
    trail = []
    for index, page in enumerate(visits):
        after = visited(trail, page)
        if page in trail:
            found.append((index, trail[len(after):]))
        trail = after
    return found


def visits_of(trails):
    """Return the visits behind which the trails are these ones, or None."""
    if not isinstance(trails, list) or len(trails) > MOST_VISITS or not _are_integer_lists(trails):
        raise InvalidTrailError("not a list of trails")
    fitting = True
    before = []
    for trail in trails:
        # What a visit makes of a trail is one, so only other lists need a check.
        if not _is_visited(before, trail):
            check_trail(trail)
            fitting = False
        before = trail
    # The page visited last always ends the trail, so no other visits are possible.
    return [trail[-1] for trail in trails] if fitting else None


def check_visits(visits):
    """Raise an error unless the value is visits."""
    if not is_visits(visits):
        raise InvalidVisitsError("not visits")


def check_trail(trail):
    """Raise an error unless the value is a trail."""
    if not is_trail(trail):
        raise InvalidTrailError("not a trail")


def visited(trail, page):
    """Return the trail after one more visit, a new list."""
    if page in trail:
        return trail[:trail.index(page) + 1]
    return [*trail, page]


def _is_visited(before, trail):
    """Tell whether a list of integers is what a visit of a page makes of the trail before."""
    return len(trail) > 0 and 0 <= trail[-1] < PAGES and trail == visited(before, trail[-1])


def _are_integer_lists(values):
    if not all([isinstance(value, list) for value in values]):
        return False
    # This tells the same as is_int, without a call for each of very many items.
    others = [
        item for value in values for item in value
        if item is True or item is False or not isinstance(item, int)
    ]
    return len(others) == 0
