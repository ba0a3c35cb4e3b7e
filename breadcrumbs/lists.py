"""Lists: the shortest lists of visits with an effect, and their order."""

from math import factorial

from breadcrumbs.checks import check_number
from breadcrumbs.errors import InvalidVisitsError
from breadcrumbs.exits import check_effect, effect_of


def fewest_visits(effect):
    """Return the number of visits in the shortest lists of the effect."""
    check_effect(effect)
    return len(effect) + len(_free_leaves(effect))


def count_shortest(effect):
    """Return the number of the shortest lists of the effect."""
    check_effect(effect)
    return factorial(len(_free_leaves(effect)))


def nth_shortest(effect, index):
    """Return the shortest list of the effect with this index in list order."""
    check_effect(effect)
    leaves = _free_leaves(effect)
    check_number(index, 0, factorial(len(leaves)) - 1)
    if effect.first is None:
        return []
    return _visits_by(effect, [effect.first, *_nth_row(leaves, index)])


def is_shortest(visits):
    """Tell whether the visits are a shortest list of their effect."""
    effect = effect_of(visits)
    return len(visits) == fewest_visits(effect)


def shortest_rank(visits):
    """Return the index of a shortest list among those of its effect."""
    if not is_shortest(visits):
        raise InvalidVisitsError("not a shortest list of its effect")
    # Lists that take the same leaves first are the same up to the next leaf,
    # so the lists are ordered as their leaves are.
    leaves = _free_leaves(effect_of(visits))
    return _row_rank([page for page in visits if page in leaves])


def _free_leaves(effect):
    """Return the leaves that may be taken in any order: all but the first page."""
    return [leaf for leaf in effect.leaves if leaf != effect.first]


def _visits_by(effect, starts):
    """Return the visits that go along the exits from one start after another."""
    targets = dict(effect.exits)
    undone = _count_sources(targets)
    visits = []
    for start in starts:
        page = start
        visits.append(page)
        # A first page that is no leaf is visited alone here, as pages with this exit are not done.
        while undone[page] == 0 and targets[page] != page:
            page = targets[page]
            undone[page] -= 1
            visits.append(page)
    return visits


def _count_sources(targets):
    """Return for each page the number of the other pages with this exit."""
    counts = {page: 0 for page in targets}
    for page, target in targets.items():
        if page != target:
            counts[target] += 1
    return counts


def _nth_row(pages, index):
    """Return the order of the ascending pages with this index."""
    left = list(pages)
    row = []
    while left:
        place, index = divmod(index, factorial(len(left) - 1))
        row.append(left.pop(place))
    return row


def _row_rank(row):
    """Return the index of the row among all orders of its pages."""
    rank = 0
    for place, page in enumerate(row):
        behind = row[place + 1:]
        smaller = len([other for other in behind if other < page])
        rank += smaller * factorial(len(behind))
    return rank
