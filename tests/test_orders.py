"""Trails of a site, and orders of pages: [19]."""

import itertools
import math
import random
import types
import unittest

from breadcrumbs.errors import (InvalidNumberError, InvalidPageError, InvalidPagesError, InvalidSiteError,
                                InvalidTrailError)
from breadcrumbs.orders import count_orders, count_trails, nth_order, order_rank, trails_from
from tests.helper import (FULL, NO_NUMBERS, NO_PAGE_OF_S, NO_PAGES_OF_S, NO_SITES, NO_TRAILS_OF_S, ONE_WAY, RING,
                          TWO_SIDES, TWO_WAYS, CallTest, S, all_trails_of, drawn_sites, links_of, small_sites)

LINE = [[page + 1] for page in range(11)] + [[]]
DOWN = [list(range(page)) for page in range(12)]


def searched_sites():
    return [*small_sites(3), *drawn_sites(4, 4), *drawn_sites(5, 3), *drawn_sites(6, 1), S, ONE_WAY, TWO_WAYS, [[]]]


def told_orders(site, pages):
    """The orders of the pages, by trying all orders."""
    links = links_of(site)
    found = [list(order) for order in itertools.permutations(pages) if set(zip(order, order[1:])) <= links]
    return sorted(order for order in found if order)


def some_pages(site):
    """All sets of pages of the site, each in some order."""
    drawn = random.Random(len(site))
    return [drawn.sample(pages, len(pages)) for size in range(len(site) + 1)
            for pages in itertools.combinations(range(len(site)), size)]


class TrailsFromTest(CallTest):
    def test_document(self):
        told = [[0], [0, 1], [0, 1, 2], [0, 1, 2, 3], [0, 2], [0, 2, 3]]
        self.check_call(told, trails_from, site=S, page=0)
        self.check_call(6, count_trails, site=S, page=0)

    def test_all_trails(self):
        for site in searched_sites():
            for page in range(len(site)):
                told = all_trails_of(site, page)
                self.check_same(told, list(trails_from(site, page)))
                self.check_same(len(told), count_trails(site, page))

    def test_edges(self):
        self.assertIsInstance(trails_from(S, 0), types.GeneratorType)
        self.check_call([[0]], trails_from, site=[[]], page=0)
        self.check_call([[2]], trails_from, site=ONE_WAY, page=2)
        self.check_call([[page for page in range(size)] for size in range(1, 13)], trails_from, site=LINE, page=0)
        self.check_call([[11]], trails_from, site=LINE, page=11)
        self.check_call([[3]], trails_from, site=[[] for _ in range(12)], page=3)

    def test_the_first_of_very_many(self):
        told = [list(range(size)) for size in range(1, 13)]
        told += [[*range(10), 11], [*range(10), 11, 10], [*range(9), 10], [*range(9), 10, 9]]
        self.assertEqual(list(itertools.islice(trails_from(FULL, 0), 16)), told)
        self.assertEqual(list(itertools.islice(trails_from(FULL, 11), 3)), [[11], [11, 0], [11, 0, 1]])

    def test_yielded_lists_may_be_changed(self):
        found = []
        for trail in trails_from(TWO_WAYS, 1):
            found.append(list(trail))
            trail.append(3)
            trail.insert(0, "spoiled")
        self.assertEqual(found, all_trails_of(TWO_WAYS, 1))

    def test_site_may_be_changed_between_the_trails(self):
        site = [list(links) for links in TWO_WAYS]
        found = []
        rows = list(site)
        for trail in trails_from(site, 1):
            found.append(trail)
            rows[0].clear()
            site.clear()
        self.assertEqual(found, all_trails_of(TWO_WAYS, 1))

    def test_errors(self):
        for function in (trails_from, count_trails):
            self.check_wrong(function, {"site": S, "page": 0},
                             [("site", InvalidSiteError, NO_SITES), ("page", InvalidPageError, NO_PAGE_OF_S)])


class CountTrailsTest(CallTest):
    def test_twelve_pages(self):
        told = sum(math.factorial(11) // math.factorial(11 - size) for size in range(12))
        for page in (0, 5, 11):
            self.check_call(told, count_trails, site=FULL, page=page)
            self.check_call(12, count_trails, site=RING, page=page)
            self.check_call(12 - page, count_trails, site=LINE, page=page)
            self.check_call(2 ** page, count_trails, site=DOWN, page=page)
        sides = 0
        for size in range(1, 13):
            own, other = (size + 1) // 2, size // 2
            sides += math.perm(5, own - 1) * math.perm(6, other)
        self.check_call(sides, count_trails, site=TWO_SIDES, page=8)

    def test_one_page(self):
        self.check_call(1, count_trails, site=[[]], page=0)
        self.check_call(1, count_trails, site=[[] for _ in range(12)], page=11)


class OrdersTest(CallTest):
    def test_document(self):
        self.check_call(4, count_orders, site=S, pages=[0, 1, 2])
        self.check_call([1, 0, 2], nth_order, site=S, pages=[2, 1, 0], index=1)
        self.check_call(3, order_rank, site=S, trail=[2, 0, 1])

    def test_all_orders(self):
        for site in searched_sites():
            for pages in some_pages(site):
                told = told_orders(site, pages)
                self.check_same(len(told), count_orders(site, pages))
                self.check_same(told, [nth_order(site, pages, index) for index in range(len(told))])
                self.check_error(InvalidNumberError, nth_order, site, pages, len(told))
                self.assertEqual([order_rank(site, trail) for trail in told], list(range(len(told))))

    def test_any_order_of_the_pages(self):
        for pages in itertools.permutations([0, 1, 2]):
            self.check_call(4, count_orders, site=S, pages=list(pages))
            self.check_call([2, 0, 1], nth_order, site=S, pages=list(pages), index=3)

    def test_no_pages(self):
        for site in (S, [[]], FULL):
            self.check_call(0, count_orders, site=site, pages=[])
            for index in (0, 1, -1):
                self.check_error(InvalidNumberError, nth_order, site, [], index)

    def test_one_page(self):
        for site, page in ((S, 3), ([[]], 0), (FULL, 11)):
            self.check_call(1, count_orders, site=site, pages=[page])
            self.check_call([page], nth_order, site=site, pages=[page], index=0)
            self.check_call(0, order_rank, site=site, trail=[page])
            self.check_error(InvalidNumberError, nth_order, site, [page], 1)

    def test_no_orders(self):
        for site, pages in ((S, [1, 3]), (ONE_WAY, [2, 3]), ([[], []], [0, 1]), (LINE, [0, 2])):
            self.check_call(0, count_orders, site=site, pages=pages)
            self.check_error(InvalidNumberError, nth_order, site, pages, 0)

    def test_twelve_pages(self):
        pages, last = list(range(12)), list(range(11, -1, -1))
        count = math.factorial(12)
        self.check_call(count, count_orders, site=FULL, pages=last)
        self.check_call(pages, nth_order, site=FULL, pages=last, index=0)
        self.check_call(last, nth_order, site=FULL, pages=pages, index=count - 1)
        self.check_call(0, order_rank, site=FULL, trail=pages)
        self.check_call(count - 1, order_rank, site=FULL, trail=last)
        self.check_error(InvalidNumberError, nth_order, FULL, pages, count)
        self.check_call(12, count_orders, site=RING, pages=pages)
        self.check_call([11, *range(11)], nth_order, site=RING, pages=pages, index=11)
        self.check_call(1, count_orders, site=DOWN, pages=pages)
        self.check_call(2 * math.factorial(6) ** 2, count_orders, site=TWO_SIDES, pages=pages)

    def test_there_and_back(self):
        drawn = random.Random(8)
        for site in [FULL, TWO_SIDES, *drawn_sites(12, 1)[1:], *drawn_sites(9, 1)[1:]]:
            for size in (len(site), 8, 5):
                pages = drawn.sample(range(len(site)), size)
                count = count_orders(site, pages)
                for index in {0, count - 1, drawn.randrange(count), drawn.randrange(count)} if count else ():
                    trail = nth_order(site, pages, index)
                    self.assertEqual(sorted(trail), sorted(pages))
                    self.assertTrue(all(after in site[page] for page, after in zip(trail, trail[1:])))
                    self.assertEqual(order_rank(site, trail), index)
                    if index + 1 < count:
                        self.assertLess(trail, nth_order(site, pages, index + 1))

    def test_errors(self):
        site = ("site", InvalidSiteError, NO_SITES)
        pages = ("pages", InvalidPagesError, NO_PAGES_OF_S)
        index = ("index", InvalidNumberError, [*NO_NUMBERS, 4, 5, "0", [0]])
        self.check_wrong(count_orders, {"site": S, "pages": [0, 1]}, [site, pages])
        self.check_wrong(nth_order, {"site": S, "pages": [0, 1, 2], "index": 0}, [site, pages, index])
        self.check_wrong(order_rank, {"site": S, "trail": [0, 1]},
                         [site, ("trail", InvalidTrailError, NO_TRAILS_OF_S)])


if __name__ == "__main__":
    unittest.main()
