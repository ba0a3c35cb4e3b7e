"""Sites, walks and trails of a site: [7] and [11]."""

import itertools
import unittest

from breadcrumbs.errors import InvalidPageError, InvalidPagesError, InvalidSiteError
from breadcrumbs.sites import (is_site, is_trail_of, is_two_way, is_walk, links_into, reached_from, reversed_site,
                               site_without)
from tests.helper import (FULL, NO_PAGE_OF_S, NO_PAGES_OF_S, NO_SITES, RING, SITES, STRANGE, CallTest, S, links_of,
                          site_of, small_sites)


class IsSiteTest(CallTest):
    def test_sites(self):
        for site in SITES:
            self.check_call(True, is_site, value=site)

    def test_all_small_sites(self):
        self.assertEqual(len(small_sites(3)), 64)
        for site in small_sites(3):
            self.assertIs(is_site(site), True)

    def test_others(self):
        for value in NO_SITES:
            with self.subTest(value=value):
                self.assertIs(is_site(value), False)

    def test_least_and_most_pages(self):
        self.assertIs(is_site([]), False)
        self.assertIs(is_site([[]]), True)
        self.assertIs(is_site([[]] * 12), True)
        self.assertIs(is_site([[]] * 13), False)


class IsWalkTest(CallTest):
    def test_document(self):
        self.check_call(True, is_walk, site=S, value=[0, 1, 2, 0])
        self.check_call(True, is_walk, site=S, value=[0, 1, 2, 0, 2, 3, 0, 1])

    def test_one_page(self):
        self.check_call(True, is_walk, site=[[]], value=[0])
        self.check_call(True, is_walk, site=S, value=[3])
        self.check_call(True, is_walk, site=FULL, value=[11])

    def test_most_pages(self):
        for pages in (1, 60, 61):
            self.check_call(True, is_walk, site=RING, value=[page % 12 for page in range(pages)])
        self.check_call(False, is_walk, site=RING, value=[page % 12 for page in range(62)])
        self.check_call(False, is_walk, site=[[1], [0]], value=[0, 1] * 31)

    def test_missing_link(self):
        for value in ([1, 3], [3, 2], [0, 3], [0, 1, 2, 3, 1], [2, 3, 2], [0, 0], [3, 3], [0, 1, 1]):
            self.check_call(False, is_walk, site=S, value=value)

    def test_links_have_a_direction(self):
        self.check_call(True, is_walk, site=[[1], []], value=[0, 1])
        self.check_call(False, is_walk, site=[[1], []], value=[1, 0])

    def test_others(self):
        for value in [*STRANGE, [], (0, 1), (0,), [4], [0, 4], [-1], [0, -1], [0, True], [False, 1], [0, 1.0],
                      [0, "1"], [0, None], [[0]], 0, "01", {0: 1, 1: 2}]:
            with self.subTest(value=value):
                self.assertIs(is_walk(S, value), False)

    def test_all_small_values(self):
        for site in small_sites(3):
            for size in range(5):
                for value in itertools.product(range(4), repeat=size):
                    good = size > 0 and max(value) < 3 and set(zip(value, value[1:])) <= links_of(site)
                    self.assertIs(is_walk(site, list(value)), good)

    def test_errors(self):
        self.check_wrong(is_walk, {"site": S, "value": [0]}, [("site", InvalidSiteError, NO_SITES)])
        self.check_error(InvalidSiteError, is_walk, [], None)


class IsTrailOfTest(CallTest):
    def test_document(self):
        self.check_call(False, is_trail_of, site=S, value=[0, 1, 2, 0])

    def test_trails(self):
        for value in ([0], [3], [0, 1, 2], [0, 1, 2, 3], [3, 0, 1, 2], [1, 2, 3, 0]):
            self.check_call(True, is_trail_of, site=S, value=value)
        self.check_call(True, is_trail_of, site=[[]], value=[0])
        self.check_call(True, is_trail_of, site=FULL, value=list(range(11, -1, -1)))

    def test_others(self):
        for value in [*STRANGE, [], (0, 1), (0,), [4], [0, 4], [-1], [0, 0], [0, 1, 0], [0, 3], [1, 3], [3, 2, 1],
                      [0, True], [False, 1], [0, 1.0], [0, "1"], [0, None], [[0]], 0, "01", {0: 1, 1: 2},
                      [0, 1, 2, 3, 0]]:
            with self.subTest(value=value):
                self.assertIs(is_trail_of(S, value), False)

    def test_all_small_values(self):
        for site in small_sites(3):
            for size in range(5):
                for value in itertools.product(range(4), repeat=size):
                    good = (size > 0 and max(value) < 3 and len(set(value)) == size
                            and set(zip(value, value[1:])) <= links_of(site))
                    self.assertIs(is_trail_of(site, list(value)), good)

    def test_errors(self):
        self.check_wrong(is_trail_of, {"site": S, "value": [0]}, [("site", InvalidSiteError, NO_SITES)])
        self.check_error(InvalidSiteError, is_trail_of, [], None)


class LinksIntoTest(CallTest):
    def test_document(self):
        self.check_call([1, 2, 3], links_into, site=S, page=0)

    def test_others(self):
        self.check_call([0], links_into, site=S, page=1)
        self.check_call([0, 1], links_into, site=S, page=2)
        self.check_call([2], links_into, site=S, page=3)
        self.check_call([], links_into, site=[[]], page=0)
        self.check_call(list(range(11)), links_into, site=FULL, page=11)
        self.check_call([11], links_into, site=RING, page=0)
        self.check_call([], links_into, site=[[1], []], page=0)
        self.check_call([0], links_into, site=[[1], []], page=1)

    def test_errors(self):
        self.check_wrong(links_into, {"site": S, "page": 0},
                         [("site", InvalidSiteError, NO_SITES), ("page", InvalidPageError, NO_PAGE_OF_S)])
        self.check_error(InvalidPageError, links_into, FULL, 12)
        self.check_error(InvalidPageError, links_into, [[]], 1)


class ReachedFromTest(CallTest):
    def test_document(self):
        self.check_call([0, 1, 2, 3], reached_from, site=S, page=3)

    def test_itself_included(self):
        self.check_call([0], reached_from, site=[[]], page=0)
        self.check_call([1], reached_from, site=[[1], []], page=1)

    def test_one_way(self):
        line = [[page + 1] for page in range(11)] + [[]]
        for page in range(12):
            self.check_call(list(range(page, 12)), reached_from, site=line, page=page)
            self.check_call(list(range(page + 1)), reached_from, site=[[], *[[p] for p in range(11)]], page=page)
            self.check_call(list(range(12)), reached_from, site=RING, page=page)
            self.check_call(list(range(12)), reached_from, site=FULL, page=page)

    def test_ascending(self):
        self.check_call([0, 1, 2, 3, 4], reached_from, site=[[], [3], [0, 4], [2], [1]], page=3)
        self.check_call([0, 2, 4], reached_from, site=[[4], [0, 3], [0], [1], [2]], page=4)

    def test_all_small_sites(self):
        for site in small_sites(3):
            for page in range(3):
                reached = {walk[-1] for size in (1, 2, 3) for walk in itertools.product(range(3), repeat=size)
                           if walk[0] == page and set(zip(walk, walk[1:])) <= links_of(site)}
                self.assertEqual(reached_from(site, page), sorted(reached))

    def test_errors(self):
        self.check_wrong(reached_from, {"site": S, "page": 0},
                         [("site", InvalidSiteError, NO_SITES), ("page", InvalidPageError, NO_PAGE_OF_S)])


class IsTwoWayTest(CallTest):
    def test_document(self):
        self.check_call(False, is_two_way, site=S)

    def test_others(self):
        for site in ([[]], [[], []], [[1], [0]], FULL, [[1], [0, 2], [1]]):
            self.check_call(True, is_two_way, site=site)
        for site in ([[1], []], [[], [0]], RING, [[1], [0, 2], []], [[1, 2], [0], []], [[1], [2], [0]]):
            self.check_call(False, is_two_way, site=site)

    def test_all_small_sites(self):
        for site in small_sites(3):
            links = links_of(site)
            self.assertIs(is_two_way(site), links == {(after, page) for page, after in links})

    def test_errors(self):
        self.check_wrong(is_two_way, {"site": S}, [("site", InvalidSiteError, NO_SITES)])


class ReversedSiteTest(CallTest):
    def test_document(self):
        self.check_call([[1, 2, 3], [0], [0, 1], [2]], reversed_site, site=S)

    def test_others(self):
        self.check_call([[]], reversed_site, site=[[]])
        self.check_call([[], [0]], reversed_site, site=[[1], []])
        self.check_call(FULL, reversed_site, site=FULL)
        self.check_call([[(page - 1) % 12] for page in range(12)], reversed_site, site=RING)

    def test_all_small_sites(self):
        for site in small_sites(3):
            links = {(after, page) for page, after in links_of(site)}
            self.assertEqual(reversed_site(site), site_of(links, 3))
            self.assertEqual(reversed_site(reversed_site(site)), site)

    def test_errors(self):
        self.check_wrong(reversed_site, {"site": S}, [("site", InvalidSiteError, NO_SITES)])


class SiteWithoutTest(CallTest):
    def test_document(self):
        self.check_call([[], [2], [3], []], site_without, site=S, pages=[0])

    def test_others(self):
        self.check_call(S, site_without, site=S, pages=[])
        self.check_call([[1, 2], [0, 2], [0], []], site_without, site=S, pages=[3])
        self.check_call([[1], [0], [], []], site_without, site=S, pages=[3, 2])
        self.check_call([[], [], [], []], site_without, site=S, pages=[2, 0, 3, 1])
        self.check_call([[]], site_without, site=[[]], pages=[0])
        self.check_call([[] for _ in range(12)], site_without, site=FULL, pages=list(range(11)))
        self.check_call(FULL, site_without, site=FULL, pages=[])

    def test_all_small_sites(self):
        for site in small_sites(3):
            for size in range(4):
                for pages in itertools.permutations(range(3), size):
                    links = {link for link in links_of(site) if not set(link) & set(pages)}
                    self.assertEqual(site_without(site, list(pages)), site_of(links, 3))

    def test_new_lists(self):
        site = [[1], [0]]
        found = site_without(site, [])
        found[0].append(5)
        self.assertEqual(site, [[1], [0]])

    def test_errors(self):
        self.check_wrong(site_without, {"site": S, "pages": [0]},
                         [("site", InvalidSiteError, NO_SITES), ("pages", InvalidPagesError, NO_PAGES_OF_S)])
        self.check_error(InvalidPagesError, site_without, [[]], [1])
        self.check_error(InvalidPagesError, site_without, FULL, [12])


if __name__ == "__main__":
    unittest.main()
