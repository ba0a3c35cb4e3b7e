"""Live trails: trails that are visited page by page.

The interface lists the same methods for all four classes, and each class must define
what is listed for it. Where a kind adds nothing of its own, it passes the call on.
"""

from breadcrumbs.checks import PAGES, are_pages, check_number, is_between, is_int
from breadcrumbs.errors import EmptyHistoryError, InvalidPageError
from breadcrumbs.exits import effect_of_pages
from breadcrumbs.text import parse_trail
from breadcrumbs.trails import visited


class Trail:
    """A live trail, at first empty."""

    MOST = 40

    def __init__(self):
        # A trail is replaced as a whole and never changed, so it may stand in several places.
        self._trail = []
        self._visits = []
        # A tuple for each call to undo: the trail and the number of visits before it.
        self._befores = []

    @staticmethod
    def is_page(value):
        """Tell whether any value is a page."""
        return _is_page(value)

    @classmethod
    def read(cls, text):
        """Return a live trail in which the pages of the string of a trail are visited by one call."""
        return cls._holding(parse_trail(text))

    def visit(self, *pages):
        """Visit the pages, and return for each one whether it was new in the trail."""
        _check_pages(pages)
        self._befores.append((self._trail, len(self._visits)))
        news = []
        for page in pages:
            news.append(page not in self._trail)
            self._trail = self._after(self._trail, page)
            self._visits.append(page)
        return news

    def back(self, count=1):
        """Visit the page so many places before the end of the trail, and return it."""
        check_number(count, 1, len(self._trail) - 1)
        page = self._trail[-1 - count]
        self.visit(page)
        return page

    def undo(self):
        """Revert the last call that is not reverted."""
        if len(self._befores) == 0:
            raise EmptyHistoryError("no call to undo")
        trail, times = self._befores.pop()
        self._trail = trail
        self._visits = self._visits[:times]

    def tried(self, *pages):
        """Return the trail after visits of these pages, which are not made."""
        _check_pages(pages)
        trail = list(self._trail)
        for page in pages:
            trail = self._after(trail, page)
        return trail

    def twin(self):
        """Return an independent equal live trail of the same class with the same calls to undo."""
        other = self._empty()
        other._trail = list(self._trail)
        other._visits = list(self._visits)
        other._befores = list(self._befores)
        return other

    def report(self):
        """Return the strings that tell of the live trail."""
        return [f"pages {len(self._trail)}"]

    @property
    def trail(self):
        """The trail."""
        return list(self._trail)

    @property
    def visits(self):
        """The list of all visited pages, in order."""
        return list(self._visits)

    @property
    def effect(self):
        """The effect of the visits."""
        return effect_of_pages(self._visits)

    def __len__(self):
        return len(self._trail)

    def __contains__(self, x):
        return self._has(x)

    def __eq__(self, other):
        return isinstance(other, Trail) and self._is_like(other)

    @classmethod
    def _empty(cls):
        return cls()

    @classmethod
    def _holding(cls, pages):
        live = cls()
        live.visit(*pages)
        return live

    def _after(self, trail, page):
        """Return the trail after one more visit."""
        return visited(trail, page)

    def _has(self, value):
        return is_int(value) and value in self._trail

    def _is_like(self, other):
        """Tell whether another live trail has the same class, trail and visits."""
        alike = self.__class__.__name__ == other.__class__.__name__
        return alike and self._trail == other._trail and self._visits == other._visits


class ShortTrail(Trail):
    """A live trail that loses its first page where it gets more than so many pages."""

    def __init__(self, most=5):
        check_number(most, 1, self.MOST)
        super().__init__()
        self._most = most

    @staticmethod
    def is_page(value):
        return _is_page(value)

    @classmethod
    def read(cls, text):
        return cls._holding(parse_trail(text))

    def visit(self, *pages):
        return super().visit(*pages)

    def back(self, count=1):
        return super().back(count)

    def undo(self):
        super().undo()

    def tried(self, *pages):
        return super().tried(*pages)

    def twin(self):
        other = super().twin()
        other._most = self._most
        return other

    def report(self):
        return [*super().report(), f"most {self._most}"]

    @property
    def trail(self):
        return list(self._trail)

    @property
    def visits(self):
        return list(self._visits)

    @property
    def effect(self):
        return effect_of_pages(self._visits)

    @property
    def most(self):
        """The most pages that the trail may have."""
        return self._most

    def __len__(self):
        return len(self._trail)

    def __contains__(self, x):
        return self._has(x)

    def __eq__(self, other):
        return isinstance(other, ShortTrail) and self._is_like(other) and self._most == other._most

    def _after(self, trail, page):
        return super()._after(trail, page)[-self._most:]


class CountingTrail(Trail):
    """A live trail that tells how often each page was visited."""

    def __init__(self):
        super().__init__()

    @staticmethod
    def is_page(value):
        return _is_page(value)

    @classmethod
    def read(cls, text):
        return cls._holding(parse_trail(text))

    def visit(self, *pages):
        return super().visit(*pages)

    def back(self, count=1):
        return super().back(count)

    def undo(self):
        super().undo()

    def tried(self, *pages):
        return super().tried(*pages)

    def twin(self):
        return super().twin()

    def report(self):
        return [*super().report(), f"visits {len(self._visits)}"]

    @property
    def trail(self):
        return list(self._trail)

    @property
    def visits(self):
        return list(self._visits)

    @property
    def effect(self):
        return effect_of_pages(self._visits)

    @property
    def counts(self):
        """The ascending list of the tuples (page, times) for all visited pages."""
        return _counts_of(self._visits)

    def __len__(self):
        return len(self._trail)

    def __contains__(self, x):
        return self._has(x)

    def __eq__(self, other):
        return isinstance(other, CountingTrail) and self._is_like(other)


# The order of the bases is that of the strings of a report, from the last one to the first.
class ShortCountingTrail(ShortTrail, CountingTrail):
    """A live trail of both kinds."""

    def __init__(self, most=5):
        super().__init__(most)

    @staticmethod
    def is_page(value):
        return _is_page(value)

    @classmethod
    def read(cls, text):
        return cls._holding(parse_trail(text))

    def visit(self, *pages):
        return super().visit(*pages)

    def back(self, count=1):
        return super().back(count)

    def undo(self):
        super().undo()

    def tried(self, *pages):
        return super().tried(*pages)

    def twin(self):
        return super().twin()

    def report(self):
        return super().report()

    @property
    def trail(self):
        return list(self._trail)

    @property
    def visits(self):
        return list(self._visits)

    @property
    def effect(self):
        return effect_of_pages(self._visits)

    @property
    def most(self):
        return self._most

    @property
    def counts(self):
        return _counts_of(self._visits)

    def __len__(self):
        return len(self._trail)

    def __contains__(self, x):
        return self._has(x)

    def __eq__(self, other):
        return isinstance(other, ShortCountingTrail) and self._is_like(other) and self._most == other._most


def _is_page(value):
    return is_between(value, 0, PAGES - 1)


def _check_pages(pages):
    if not are_pages(list(pages), PAGES):
        raise InvalidPageError("not a page")


def _counts_of(pages):
    """Return a tuple (page, times) for each of the pages, ascending."""
    counts = {}
    for page in pages:
        counts[page] = counts.get(page, 0) + 1
    return sorted(counts.items())
