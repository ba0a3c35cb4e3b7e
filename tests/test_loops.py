"""Closed walks and loop numbers: [8] and [17]."""

import itertools
import random
import unittest

from breadcrumbs.errors import InvalidNumberError, InvalidPageError, InvalidPagesError, InvalidSiteError
from breadcrumbs.loops import closed_walks, loop_numbers, loop_parts
from tests.helper import (FULL, NO_PAGE_OF_S, NO_PAGES_OF_S, NO_SITES, NO_STEPS, ONE_WAY, RING, TWO_SIDES, TWO_WAYS,
                          CallTest, S, all_walks, drawn_sites, small_sites)


def told_closed(site, page, barred, most):
    """What closed_walks must return, by looking at all walks."""
    return [len([walk for walk in all_walks(site, page, steps) if walk[-1] == page and not set(walk) & set(barred)])
            for steps in range(most + 1)]


def told_loops(parts, most):
    """The loop numbers of these parts, by trying all divisions of the steps."""
    numbers = [0] * (most + 1)
    for chosen in itertools.product(range(most + 1), repeat=len(parts)):
        if sum(chosen) <= most:
            ways = 1
            for part, steps in zip(parts, chosen):
                ways *= part[steps]
            numbers[sum(chosen)] += ways
    return numbers


def full_closed(many, most):
    """The numbers of closed walks where each of so many pages links to all others."""
    return [((many - 1) ** steps + (many - 1) * (-1) ** steps) // many for steps in range(most + 1)]


class ClosedWalksTest(CallTest):
    def test_document(self):
        self.check_call([1, 0, 2, 2, 5, 8], closed_walks, site=S, page=0, barred=[], most=5)
        self.check_call([1, 0, 1, 0, 1, 0], closed_walks, site=S, page=0, barred=[2], most=5)

    def test_all_small_sites(self):
        for site in small_sites(3):
            for page in range(3):
                others = [other for other in range(3) if other != page]
                for size in range(3):
                    for barred in itertools.permutations(others, size):
                        told = told_closed(site, page, barred, 5)
                        self.check_same(told, closed_walks(site, page, list(barred), 5))

    def test_drawn_sites(self):
        drawn = random.Random(1)
        for site in [*drawn_sites(4, 4), *drawn_sites(5, 4), ONE_WAY, TWO_WAYS]:
            page = drawn.randrange(len(site))
            others = [other for other in range(len(site)) if other != page]
            barred = drawn.sample(others, drawn.randrange(len(site)))
            self.check_call(told_closed(site, page, barred, 5), closed_walks,
                            site=site, page=page, barred=barred, most=5)

    def test_most(self):
        self.check_call([1], closed_walks, site=S, page=0, barred=[], most=0)
        self.check_call([1, 0], closed_walks, site=S, page=0, barred=[], most=1)
        for most in (2, 59, 60):
            self.assertEqual(len(closed_walks(FULL, 0, [], most)), most + 1)
            self.assertEqual(closed_walks(S, 2, [1], most), closed_walks(S, 2, [1], 60)[:most + 1])

    def test_one_page(self):
        self.check_call([1] + [0] * 60, closed_walks, site=[[]], page=0, barred=[], most=60)

    def test_twelve_pages(self):
        for barred in ([], [11], [5, 2, 9], list(range(2, 12)), list(range(11, 0, -1))):
            self.check_call(full_closed(12 - len(barred), 60), closed_walks,
                            site=FULL, page=0, barred=barred, most=60)
        ring = [1 if steps in (0, 12, 24, 36, 48, 60) else 0 for steps in range(61)]
        self.check_call(ring, closed_walks, site=RING, page=7, barred=[], most=60)
        self.check_call([1] + [0] * 60, closed_walks, site=RING, page=7, barred=[3], most=60)
        sides = [1] + [6 ** (steps - 1) if steps in range(2, 61, 2) else 0 for steps in range(1, 61)]
        self.check_call(sides, closed_walks, site=TWO_SIDES, page=3, barred=[], most=60)

    def test_one_way(self):
        self.check_call([1, 0, 0, 0], closed_walks, site=[[1], []], page=0, barred=[], most=3)
        self.check_call([1, 0, 0, 0], closed_walks, site=ONE_WAY, page=3, barred=[], most=3)
        self.check_call([1, 0, 1, 0, 1], closed_walks, site=ONE_WAY, page=1, barred=[3], most=4)

    def test_errors(self):
        self.check_wrong(closed_walks, {"site": S, "page": 0, "barred": [2], "most": 5},
                         [("site", InvalidSiteError, NO_SITES), ("page", InvalidPageError, NO_PAGE_OF_S),
                          ("barred", InvalidPagesError, [*NO_PAGES_OF_S, [2, 2], [0], [0, 1], [1, 2, 3, 0]]),
                          ("most", InvalidNumberError, NO_STEPS)])

    def test_page_is_barred(self):
        for page, barred in ((0, [0]), (3, [1, 3]), (2, [2, 0, 1, 3])):
            self.check_error(InvalidPagesError, closed_walks, S, page, barred, 5)
            for most in NO_STEPS:
                self.check_error(InvalidPagesError, closed_walks, S, page, barred, most)
        self.check_error(InvalidPagesError, closed_walks, [[]], 0, [0], 0)
        self.check_error(InvalidPageError, closed_walks, S, 4, [4], 5)


class LoopPartsTest(CallTest):
    def test_document(self):
        told = [[1, 0, 1, 2, 3, 6], [1, 0, 1, 0, 1, 0]]
        self.check_call(told, loop_parts, site=S, pages=[2, 0], most=5)

    def test_all_small_sites(self):
        for site in small_sites(3):
            for size in range(4):
                for pages in itertools.permutations(range(3), size):
                    told = [told_closed(site, page, pages[:at], 4) for at, page in enumerate(pages)]
                    self.check_same(told, loop_parts(site, list(pages), 4))

    def test_edges(self):
        self.check_call([], loop_parts, site=S, pages=[], most=5)
        self.check_call([], loop_parts, site=S, pages=[], most=0)
        self.check_call([[1]], loop_parts, site=[[]], pages=[0], most=0)
        self.check_call([[1] + [0] * 60], loop_parts, site=[[]], pages=[0], most=60)
        told = [full_closed(12 - before, 60) for before in range(12)]
        self.check_call(told, loop_parts, site=FULL, pages=[3, 0, 11, 5, 4, 7, 8, 1, 2, 6, 10, 9], most=60)

    def test_parts_are_lists_of_their_own(self):
        parts = loop_parts([[], [], []], [0, 1, 2], 2)
        parts[0].append(5)
        self.assertEqual(parts, [[1, 0, 0, 5], [1, 0, 0], [1, 0, 0]])

    def test_errors(self):
        self.check_wrong(loop_parts, {"site": S, "pages": [2, 0], "most": 5},
                         [("site", InvalidSiteError, NO_SITES), ("pages", InvalidPagesError, NO_PAGES_OF_S),
                          ("most", InvalidNumberError, NO_STEPS)])


class LoopNumbersTest(CallTest):
    def test_document(self):
        self.check_call([1, 0, 2, 2, 5, 8], loop_numbers, site=S, pages=[2, 0], most=5)
        self.check_call([1, 0, 2, 2, 5, 8], loop_numbers, site=S, pages=[0, 2], most=5)
        self.check_call([1, 0, 0], loop_numbers, site=S, pages=[], most=2)

    def test_all_small_sites(self):
        for site in small_sites(3):
            for size in range(4):
                for pages in itertools.permutations(range(3), size):
                    parts = [told_closed(site, page, pages[:at], 4) for at, page in enumerate(pages)]
                    self.check_same(told_loops(parts, 4), loop_numbers(site, list(pages), 4))

    def test_order_of_the_pages(self):
        for site in [*drawn_sites(4, 3), ONE_WAY, TWO_WAYS]:
            for size in range(len(site) + 1):
                for pages in itertools.combinations(range(len(site)), size):
                    told = loop_numbers(site, list(pages), 12)
                    for order in itertools.permutations(pages):
                        self.assertEqual(loop_numbers(site, list(order), 12), told)

    def test_order_of_many_pages(self):
        drawn = random.Random(4)
        for site in [*drawn_sites(12, 2), FULL, RING, TWO_SIDES]:
            for size in (2, 5, 11, 12):
                pages = drawn.sample(range(12), size)
                self.assertEqual(loop_numbers(site, pages, 60), loop_numbers(site, sorted(pages), 60))

    def test_edges(self):
        self.check_call([1], loop_numbers, site=S, pages=[], most=0)
        self.check_call([1], loop_numbers, site=S, pages=[3, 1], most=0)
        self.check_call([1, 0], loop_numbers, site=S, pages=[3, 1], most=1)
        self.check_call([1] + [0] * 60, loop_numbers, site=S, pages=[], most=60)
        self.check_call([1] + [0] * 60, loop_numbers, site=[[]], pages=[0], most=60)
        self.check_call([1] + [0] * 60, loop_numbers, site=[[1], []], pages=[1, 0], most=60)
        self.check_call(full_closed(12, 60), loop_numbers, site=FULL, pages=[4], most=60)
        self.assertEqual(loop_numbers(FULL, list(range(12)), 3), [1, 0, 66, 440])

    def test_errors(self):
        self.check_wrong(loop_numbers, {"site": S, "pages": [2, 0], "most": 5},
                         [("site", InvalidSiteError, NO_SITES), ("pages", InvalidPagesError, NO_PAGES_OF_S),
                          ("most", InvalidNumberError, NO_STEPS)])


if __name__ == "__main__":
    unittest.main()
