"""Effects: what visits do to all trails at once."""

from breadcrumbs.checks import PAGES, check_number, is_between, is_int, place_of
from breadcrumbs.errors import InvalidEffectError
from breadcrumbs.trails import check_trail, check_visits


class Effect:
    """The effect of visits: the first page, and the exit of each visited page."""

    def __init__(self, first, exits):
        if not _is_effect(first, exits):
            raise InvalidEffectError("not the parts of an effect")
        self._first = first
        self._exits = list(exits)

    @property
    def first(self):
        """The page visited first, or None."""
        return self._first

    @property
    def exits(self):
        """The ascending list of the tuples (page, exit)."""
        return list(self._exits)

    @property
    def last(self):
        """The page visited last, or None."""
        for page, target in self._exits:
            if page == target:
                return page
        return None

    @property
    def leaves(self):
        """The ascending list of the pages that are not the exit of another page."""
        entered = [target for page, target in self._exits if page != target]
        return [pair[0] for pair in self._exits if pair[0] not in entered]

    def __len__(self):
        return len(self._exits)

    def __contains__(self, x):
        return is_int(x) and x in [pair[0] for pair in self._exits]

    def __eq__(self, other):
        return isinstance(other, Effect) and self._first == other._first and self._exits == other._exits

    def __call__(self, trail):
        """Return the trail after the visits."""
        check_trail(trail)
        targets = dict(self._exits)
        for index, page in enumerate(trail):
            if page in targets:
                return trail[:index] + _way_on(targets, page)
        if self._first is None:
            return list(trail)
        return trail + _way_on(targets, self._first)

    def __add__(self, other):
        if not isinstance(other, Effect):
            return NotImplemented
        if other._first is None:
            return self
        if self._first is None:
            return other
        targets = dict(self._exits)
        targets[self.last] = other._first
        for page, target in other._exits:
            targets[page] = target
        return Effect(self._first, sorted(targets.items()))


def effect_of(visits):
    """Return the effect of the visits."""
    check_visits(visits)
    return effect_of_pages(visits)


def effect_of_pages(pages):
    """Return the effect of visits of these pages, of which there may be more than visits may have."""
    first = pages[0] if len(pages) > 0 else None
    targets = _targets_of(pages)
    return Effect(first, sorted(targets.items()))


def same_effect(one, two):
    """Tell whether two lists of visits have the same effect."""
    return effect_of(one) == effect_of(two)


def parting_trail(one, two):
    """Return a trail from which the visits lead to different trails, or None."""
    check_visits(one)
    check_visits(two)
    former = _targets_of(one)
    latter = _targets_of(two)
    for page in range(PAGES):
        exits = (former.get(page), latter.get(page))
        if exits[0] != exits[1]:
            # From the trail below, visits of the page lead to it and to its exit, while visits
            # without it keep the page behind it, which is therefore none of the exits.
            others = [other for other in range(PAGES) if other != page and other not in exits]
            return [page, others[0]]
    # With the same exits only the first pages can differ. The empty trail leads to them.
    return [] if one[:1] != two[:1] else None


def count_effects(many):
    """Return the number of the effects in which exactly the pages 0 to many - 1 are visited."""
    check_number(many, 1, PAGES)
    return _power(many, many)


def nth_effect(many, index):
    """Return the effect with this index among those of the pages 0 to many - 1."""
    check_number(many, 1, PAGES)
    check_number(index, 0, _power(many, many) - 1)
    first, rest = divmod(index, _power(many, many - 1))
    return Effect(first, list(enumerate(_nth_targets(many, rest))))


def effect_rank(effect):
    """Return the index of the effect among those of its pages."""
    check_effect(effect)
    many = len(effect)
    if many == 0 or [pair[0] for pair in effect.exits] != list(range(many)):
        raise InvalidEffectError("not an effect of the pages from 0 on")
    targets = [pair[1] for pair in effect.exits]
    return effect.first * _power(many, many - 1) + _targets_rank(targets)


def check_effect(effect):
    """Raise an error unless the value is an effect."""
    if not isinstance(effect, Effect):
        raise InvalidEffectError("not an effect")


def _is_effect(first, exits):
    if first is None:
        return isinstance(exits, list) and len(exits) == 0
    return is_int(first) and _are_exits(exits) and first in [pair[0] for pair in exits]


def _are_exits(value):
    if not isinstance(value, list) or not all([_is_exit(item) for item in value]):
        return False
    pages = [pair[0] for pair in value]
    lasts = [page for page, target in value if page == target]
    if pages != sorted(set(pages)) or len(lasts) != 1:
        return False
    targets = dict(value)
    return all([_leads_to(targets, page, lasts[0]) for page in pages])


def _is_exit(value):
    return isinstance(value, tuple) and len(value) == 2 and all([is_between(item, 0, PAGES - 1) for item in value])


def _leads_to(targets, page, last):
    # A way that does not end after as many pages as there are goes round.
    for _ in range(len(targets)):
        if page == last:
            return True
        if page not in targets:
            return False
        page = targets[page]
    return False


def _way_on(targets, page):
    way = [page]
    while targets[page] != page:
        page = targets[page]
        way.append(page)
    return way


def _targets_of(visits):
    """Return the exit of each visited page."""
    # The last visit of a page is the one whose exit is kept.
    return dict(zip(visits, visits[1:] + visits[-1:]))


def _power(base, times):
    power = 1
    for _ in range(times):
        power *= base
    return power


def _nth_targets(many, index):
    ends = list(range(many))
    chosen = []
    for page in range(many):
        target, index = place_of(_count_choices(ends, page), index)
        chosen.append(target)
        ends = _ends_with(ends, page, target)
    return chosen


def _targets_rank(targets):
    ends = list(range(len(targets)))
    rank = 0
    for page, target in enumerate(targets):
        rank += sum(_count_choices(ends, page)[:target])
        ends = _ends_with(ends, page, target)
    return rank


def _count_choices(ends, page):
    """Count, for each exit of a page, the lists of exits that begin with the chosen ones and this one.

    The exits of the pages before this one are chosen. From each page they lead to its end
    in ends: to a page without a chosen exit, or to the page visited last.
    """
    many = len(ends)
    # The chosen exits form trees that lead to the free pages and, if it is
    # chosen, to the page visited last. Of n pages there are n ** (t - 1) trees
    # that contain t given ones, and s / n of these have the root of a given
    # one of s pages as their own root.
    power = _power(many, many - page - 1)
    joined = ends.count(page)
    finished = len([end for end in ends if end < page])
    to_free = max(finished, 1) * power // many
    to_last = (finished + joined) * power // many
    # An exit must not lead back to the page, but the page visited last is its own exit.
    counts = [to_free if end > page else to_last if end < page else 0 for end in ends]
    if finished == 0:
        counts[page] = joined * power // many
    return counts


def _ends_with(ends, page, target):
    """Return the ends after one more choice, the exit of a page."""
    return [ends[target] if end == page else end for end in ends]
