"""Walks by their trails: [2], [8] and [18]."""

import itertools
import random
import types
import unittest

from breadcrumbs.errors import (InvalidNumberError, InvalidPageError, InvalidSiteError, InvalidTrailError,
                                InvalidVisitsError)
from breadcrumbs.walks import count_from, count_walks, nth_walk, trails_with, walk_rank
from tests.helper import (FULL, NO_NUMBERS, NO_PAGE_OF_S, NO_SITES, NO_STEPS, NO_TRAILS_OF_S, NO_WALKS_OF_S, ONE_WAY,
                          RING, TWO_SIDES, TWO_WAYS, CallTest, S, all_trails_of, all_walks, drawn_sites, simulated,
                          small_sites)

FAR = [page % 12 for page in range(61)]


def walks_by_trail(site, page, steps):
    """The walks with so many steps, by their trails, each in list order."""
    found = {}
    for walk in all_walks(site, page, steps):
        found.setdefault(tuple(simulated(walk)), []).append(walk)
    return found


def searched():
    """Sites, pages and steps for a search over all walks."""
    for site in small_sites(3):
        for page in range(3):
            for steps in range(6):
                yield site, page, steps
    for site in [*drawn_sites(4, 3), *drawn_sites(5, 2), S, ONE_WAY, TWO_WAYS]:
        for page in range(len(site)):
            for steps in (0, 1, 2, 3, 5):
                yield site, page, steps


class SearchTest(CallTest):
    """Compares with a search over all walks."""

    def test_walks_of_all_trails(self):
        for site, page, steps in searched():
            found = walks_by_trail(site, page, steps)
            for trail in all_trails_of(site, page):
                walks = found.get(tuple(trail), [])
                self.assertEqual(count_walks(site, trail, steps), len(walks))
                self.assertEqual([nth_walk(site, trail, steps, index) for index in range(min(len(walks), 12))],
                                 walks[:12])
                self.check_error(InvalidNumberError, nth_walk, site, trail, steps, len(walks))

    def test_ranks(self):
        for site, page, steps in searched():
            for walks in walks_by_trail(site, page, steps).values():
                for index in {0, len(walks) // 2, len(walks) - 1}:
                    self.assertEqual(walk_rank(site, walks[index]), index)

    def test_all_walks_from_a_page(self):
        for site, page, steps in searched():
            self.assertEqual(count_from(site, page, steps), len(all_walks(site, page, steps)))

    def test_trails(self):
        for site, page, steps in searched():
            found = walks_by_trail(site, page, steps)
            told = [(list(trail), len(found[trail])) for trail in sorted(found)]
            self.check_same(told, list(trails_with(site, page, steps)))

    def test_more_steps(self):
        for site in (S, TWO_WAYS):
            found = walks_by_trail(site, 0, 8)
            for trail, walks in found.items():
                self.assertEqual([nth_walk(site, list(trail), 8, index) for index in range(len(walks))], walks)
                self.assertEqual([walk_rank(site, walk) for walk in walks], list(range(len(walks))))
            self.assertEqual(dict((tuple(trail), number) for trail, number in trails_with(site, 0, 8)),
                             {trail: len(walks) for trail, walks in found.items()})


class CountWalksTest(CallTest):
    def test_document(self):
        self.check_call(5, count_walks, site=S, trail=[0, 2], steps=5)
        self.check_call(5, count_walks, site=S, trail=[2, 0], steps=5)
        self.check_call(2, count_walks, site=S, trail=[0, 1, 2], steps=4)

    def test_edges(self):
        self.check_call(1, count_walks, site=[[]], trail=[0], steps=0)
        self.check_call(0, count_walks, site=[[]], trail=[0], steps=1)
        self.check_call(0, count_walks, site=[[]], trail=[0], steps=60)
        self.check_call(1, count_walks, site=[[1], [0]], trail=[0], steps=60)
        self.check_call(0, count_walks, site=[[1], [0]], trail=[0, 1], steps=60)
        self.check_call(0, count_walks, site=S, trail=[0, 1, 2, 3], steps=2)
        self.check_call(1, count_walks, site=S, trail=[0, 1, 2, 3], steps=3)
        self.check_call(0, count_walks, site=S, trail=[0, 1, 2, 3], steps=4)
        self.check_call(0, count_walks, site=S, trail=[0, 1, 2, 3], steps=0)
        self.check_call(1, count_walks, site=S, trail=[3], steps=0)

    def test_twelve_pages(self):
        self.check_call((11 ** 60 + 11) // 12, count_walks, site=FULL, trail=[5], steps=60)
        self.check_call(1, count_walks, site=FULL, trail=list(range(12)), steps=11)
        self.check_call(0, count_walks, site=FULL, trail=list(range(12)), steps=12)
        self.check_call(66, count_walks, site=FULL, trail=list(range(11, -1, -1)), steps=13)
        self.check_call(1, count_walks, site=RING, trail=[11, 0, 1], steps=2)
        self.check_call(0, count_walks, site=RING, trail=[11, 0, 1], steps=13)
        self.check_call(1, count_walks, site=RING, trail=[11, 0, 1], steps=14)

    def test_a_trail_and_its_reverse(self):
        for site in [*small_sites(3), *drawn_sites(4, 4), *drawn_sites(5, 2), S, TWO_WAYS, ONE_WAY]:
            for page in range(len(site)):
                for trail in all_trails_of(site, page):
                    if trail[::-1] in all_trails_of(site, trail[-1]):
                        for steps in (0, 1, 2, 3, 4, 5, 9, 60):
                            self.assertEqual(count_walks(site, trail, steps), count_walks(site, trail[::-1], steps))

    def test_the_pages_decide(self):
        for site in [*drawn_sites(4, 4), S, TWO_WAYS]:
            known = {}
            for page in range(len(site)):
                for trail in all_trails_of(site, page):
                    number = count_walks(site, trail, 11)
                    self.assertEqual(known.setdefault(tuple(sorted(trail)), number), number)

    def test_errors(self):
        self.check_wrong(count_walks, {"site": S, "trail": [0, 2], "steps": 5},
                         [("site", InvalidSiteError, NO_SITES), ("trail", InvalidTrailError, NO_TRAILS_OF_S),
                          ("steps", InvalidNumberError, NO_STEPS)])


class NthWalkTest(CallTest):
    def test_document(self):
        self.check_call([0, 2, 0, 1, 2], nth_walk, site=S, trail=[0, 1, 2], steps=4, index=1)

    def test_edges(self):
        self.check_call([0], nth_walk, site=[[]], trail=[0], steps=0, index=0)
        self.check_call([0, 1] * 30 + [0], nth_walk, site=[[1], [0]], trail=[0], steps=60, index=0)
        self.check_call([11], nth_walk, site=FULL, trail=[11], steps=0, index=0)
        self.check_call(FAR, nth_walk, site=RING, trail=[0], steps=60, index=0)
        self.check_call([1, 0, 1, 2], nth_walk, site=ONE_WAY, trail=[1, 2], steps=3, index=0)

    def test_first_and_last(self):
        for trail in ([0], [11], [0, 1], [11, 3, 5], list(range(12)), list(range(11, -1, -1))):
            count = count_walks(FULL, trail, 60)
            first, last = nth_walk(FULL, trail, 60, 0), nth_walk(FULL, trail, 60, count - 1)
            for walk, index in ((first, 0), (last, count - 1)):
                self.assertEqual((len(walk), simulated(walk)), (61, trail))
                self.assertEqual(walk_rank(FULL, walk), index)
            self.assertLess(first, last)
            self.check_error(InvalidNumberError, nth_walk, FULL, trail, 60, count)
            self.check_error(InvalidNumberError, nth_walk, FULL, trail, 60, -1)

    def test_no_walks(self):
        for site, trail, steps in ((S, [0, 1, 2, 3], 2), (S, [0], 1), ([[]], [0], 60), ([[1], [0]], [0, 1], 60)):
            self.assertEqual(count_walks(site, trail, steps), 0)
            for index in (0, -1, 1):
                self.check_error(InvalidNumberError, nth_walk, site, trail, steps, index)

    def test_there_and_back(self):
        drawn = random.Random(9)
        for site in [*drawn_sites(12, 2), FULL, TWO_SIDES, S]:
            for steps in (1, 7, 24, 59, 60):
                for trail in [trail for trail, _ in itertools.islice(trails_with(site, 0, steps), 0, 200, 60)]:
                    count = count_walks(site, trail, steps)
                    for index in {0, count - 1, drawn.randrange(count), drawn.randrange(count)}:
                        walk = nth_walk(site, trail, steps, index)
                        self.assertEqual((len(walk), simulated(walk)), (steps + 1, trail))
                        self.assertTrue(all(after in site[page] for page, after in zip(walk, walk[1:])))
                        self.assertEqual(walk_rank(site, walk), index)
                        if index + 1 < count:
                            self.assertLess(walk, nth_walk(site, trail, steps, index + 1))

    def test_errors(self):
        self.check_wrong(nth_walk, {"site": S, "trail": [0, 1, 2], "steps": 4, "index": 0},
                         [("site", InvalidSiteError, NO_SITES), ("trail", InvalidTrailError, NO_TRAILS_OF_S),
                          ("steps", InvalidNumberError, NO_STEPS),
                          ("index", InvalidNumberError, [*NO_NUMBERS, 2, 3, "0", [0]])])


class WalkRankTest(CallTest):
    def test_document(self):
        self.check_call(1, walk_rank, site=S, walk=[0, 2, 0, 1, 2])

    def test_edges(self):
        self.check_call(0, walk_rank, site=[[]], walk=[0])
        self.check_call(0, walk_rank, site=RING, walk=FAR)
        self.check_call(0, walk_rank, site=[[1], [0]], walk=[1, 0] * 30 + [1])

    def test_errors(self):
        self.check_wrong(walk_rank, {"site": S, "walk": [0, 1, 2]},
                         [("site", InvalidSiteError, NO_SITES), ("walk", InvalidVisitsError, NO_WALKS_OF_S)])
        self.check_error(InvalidVisitsError, walk_rank, RING, [*FAR, 1])


class CountFromTest(CallTest):
    def test_document(self):
        self.check_call(4, count_from, site=S, page=0, steps=2)

    def test_edges(self):
        self.check_call(1, count_from, site=[[]], page=0, steps=0)
        self.check_call(0, count_from, site=[[]], page=0, steps=1)
        self.check_call(0, count_from, site=[[]], page=0, steps=60)
        self.check_call(1, count_from, site=FULL, page=11, steps=0)
        self.check_call(11 ** 60, count_from, site=FULL, page=11, steps=60)
        self.check_call(1, count_from, site=RING, page=5, steps=60)
        self.check_call(0, count_from, site=ONE_WAY, page=2, steps=1)
        self.check_call(2, count_from, site=ONE_WAY, page=3, steps=1)

    def test_errors(self):
        self.check_wrong(count_from, {"site": S, "page": 0, "steps": 5},
                         [("site", InvalidSiteError, NO_SITES), ("page", InvalidPageError, NO_PAGE_OF_S),
                          ("steps", InvalidNumberError, NO_STEPS)])


class TrailsWithTest(CallTest):
    def test_document(self):
        told = [([0], 2), ([0, 1, 2], 1), ([0, 2, 3], 1)]
        self.check_call(told, trails_with, site=S, page=0, steps=2)

    def test_edges(self):
        self.assertIsInstance(trails_with(S, 0, 2), types.GeneratorType)
        self.check_call([([0], 1)], trails_with, site=[[]], page=0, steps=0)
        self.check_call([], trails_with, site=[[]], page=0, steps=1)
        self.check_call([], trails_with, site=[[]], page=0, steps=60)
        self.check_call([([11], 1)], trails_with, site=FULL, page=11, steps=0)
        self.check_call([([11, page], 1) for page in range(11)], trails_with, site=FULL, page=11, steps=1)
        self.check_call([([0], 1)], trails_with, site=RING, page=0, steps=60)
        self.check_call([], trails_with, site=ONE_WAY, page=2, steps=1)
        self.check_call([([3, 0], 1), ([3, 4], 1)], trails_with, site=ONE_WAY, page=3, steps=1)

    def test_the_first_of_very_many(self):
        for steps in (11, 12, 59, 60):
            first = list(itertools.islice(trails_with(FULL, 0, steps), 40))
            self.assertEqual(first[0], ([0], count_walks(FULL, [0], steps)))
            self.assertEqual([trail for trail, _ in first], sorted(trail for trail, _ in first))
            for trail, number in first:
                self.assertEqual(number, count_walks(FULL, trail, steps))
        told = [list(range(size)) for size in range(1, 13)]
        self.assertEqual([trail for trail, _ in itertools.islice(trails_with(FULL, 0, 60), 12)], told)

    def test_sum_of_the_numbers(self):
        for site in [S, TWO_WAYS, ONE_WAY, RING, *drawn_sites(6, 3)]:
            for steps in (0, 1, 2, 11, 59, 60):
                for page in range(len(site)):
                    found = list(trails_with(site, page, steps))
                    self.assertEqual(sum(number for _, number in found), count_from(site, page, steps))
                    self.assertTrue(all(number > 0 for _, number in found))
                    self.assertEqual([trail for trail, _ in found], sorted(trail for trail, _ in found))

    def test_yielded_lists_may_be_changed(self):
        told = list(trails_with(TWO_WAYS, 0, 6))
        found = []
        for trail, number in trails_with(TWO_WAYS, 0, 6):
            found.append((list(trail), number))
            trail.append(3)
            trail.insert(0, "spoiled")
        self.assertEqual(found, told)

    def test_site_may_be_changed_between_the_trails(self):
        site = [list(links) for links in TWO_WAYS]
        found = []
        rows = list(site)
        for result in trails_with(site, 0, 6):
            found.append(result)
            rows[1].clear()
            site.clear()
        self.assertEqual(found, list(trails_with(TWO_WAYS, 0, 6)))

    def test_errors(self):
        self.check_wrong(trails_with, {"site": S, "page": 0, "steps": 2},
                         [("site", InvalidSiteError, NO_SITES), ("page", InvalidPageError, NO_PAGE_OF_S),
                          ("steps", InvalidNumberError, NO_STEPS)])


if __name__ == "__main__":
    unittest.main()
