"""Lengths: the lengths of the trails after each visit, and the visits that have given ones."""

from breadcrumbs.checks import MOST_TIMES, PAGES, are_pages, check_number, is_between, place_of
from breadcrumbs.errors import InvalidLengthsError, InvalidVisitsError
from breadcrumbs.trails import MOST_VISITS, is_visits, trails_along, visited


def is_lengths(value):
    """Tell whether any value is the lengths of some visits."""
    if not isinstance(value, list) or len(value) > MOST_VISITS:
        return False
    if not all([is_between(item, 1, PAGES) for item in value]):
        return False
    return all([length <= before + 1 for before, length in zip([0, *value], value)])


def lengths_of(visits):
    """Return the lengths of the trails after each visit."""
    return [len(trail) for trail in trails_along(visits)]


def count_lengths(many, times):
    """Return the number of lengths of so many visits of at most so many pages."""
    check_number(many, 1, PAGES)
    check_number(times, 0, MOST_TIMES)
    return _ways(many, times)[times][0]


def nth_lengths(many, times, index):
    """Return the lengths with this index among those of so many visits of at most so many pages."""
    check_number(many, 1, PAGES)
    check_number(times, 0, MOST_TIMES)
    ways = _ways(many, times)
    check_number(index, 0, ways[times][0] - 1)
    lengths = []
    before = 0
    for left in reversed(range(times)):
        place, index = place_of(ways[left][1:before + 2], index)
        before = place + 1
        lengths.append(before)
    return lengths


def lengths_rank(many, lengths):
    """Return the index of the lengths among those of as many visits of at most so many pages."""
    check_number(many, 1, PAGES)
    _check_lengths(lengths)
    times = len(lengths)
    if times > MOST_TIMES or max(lengths, default=0) > many:
        raise InvalidLengthsError("not lengths of so many visits of so many pages")
    ways = _ways(many, times)
    return sum([sum(ways[times - 1 - at][1:length]) for at, length in enumerate(lengths)])


def count_visits(many, lengths):
    """Return the number of lists of visits of the pages 0 to many - 1 with these lengths."""
    check_number(many, 1, PAGES)
    _check_lengths(lengths)
    return _product(_choices(many, lengths))


def nth_visits(many, lengths, index):
    """Return the visits with this index among those of the pages 0 to many - 1 with these lengths."""
    check_number(many, 1, PAGES)
    _check_lengths(lengths)
    choices = _choices(many, lengths)
    check_number(index, 0, _product(choices) - 1)
    visits = []
    trail = []
    for length, place in zip(lengths, _places(choices, index)):
        page = trail[length - 1] if length <= len(trail) else _others(many, trail)[place]
        trail = visited(trail, page)
        visits.append(page)
    return visits


def visits_rank(many, visits):
    """Return the index of the visits among those of the pages 0 to many - 1 with their lengths."""
    check_number(many, 1, PAGES)
    if not is_visits(visits) or not are_pages(visits, many):
        raise InvalidVisitsError("not visits of so many pages")
    rank = 0
    trail = []
    for page in visits:
        if page not in trail:
            others = _others(many, trail)
            rank = rank * len(others) + others.index(page)
        trail = visited(trail, page)
    return rank


def _check_lengths(lengths):
    if not is_lengths(lengths):
        raise InvalidLengthsError("not the lengths of visits")


def _ways(many, times):
    """Return for 0 to so many visits, by the length before them, the numbers of their lengths."""
    ways = [[1] * (many + 1)]
    for _ in range(times):
        ways.append(_one_visit_more(ways[-1]))
    return ways


def _one_visit_more(numbers):
    """Return the numbers of lengths by the length before them, from those of one visit less."""
    sums = []
    total = 0
    for number in numbers[1:]:
        total += number
        sums.append(total)
    # From the greatest length no visit leads to a greater one.
    return [*sums, total]


def _choices(many, lengths):
    """Return for each visit how many pages it may be of."""
    # The numbers behind a 0 mean nothing: then there are no such visits.
    return [many - before if length > before else 1 for before, length in zip([0, *lengths], lengths)]


def _places(choices, index):
    """Return which of the choices each visit takes in the list with this index."""
    places = []
    for number in reversed(choices):
        index, place = divmod(index, number)
        places.append(place)
    return places[::-1]


def _product(numbers):
    product = 1
    for number in numbers:
        product *= number
    return product


def _others(many, trail):
    """Return the ascending list of the pages that are not in the trail."""
    return sorted(set(list(range(many))) - set(trail))
