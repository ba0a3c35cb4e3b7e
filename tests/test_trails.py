"""Visits and trails: [6] and [12]."""

import itertools
import random
import types
import unittest

from breadcrumbs.errors import InvalidTrailError, InvalidVisitsError
from breadcrumbs.trails import cuts, is_trail, is_visits, stays, trail_after, trails_along, visits_of
from tests.helper import (LONG, NO_STARTS, NO_TRAILS, NO_VISITS, CallTest, V, simulated, small_visits,
                          some_visits)


def told_stays(visits):
    """What stays must return, told from the trails."""
    told = []
    for index, page in enumerate(visits):
        if page not in simulated(visits[:index]):
            ends = [end for end in range(index + 1, len(visits)) if page not in simulated(visits[:end + 1])]
            told.append((index, page, ends[0] if ends else None))
    return told


def told_cuts(visits):
    """What cuts must return, told from the trails."""
    told = []
    for index, page in enumerate(visits):
        before = simulated(visits[:index])
        if page in before:
            told.append((index, before[before.index(page) + 1:]))
    return told


class Same:
    """Is equal to a page, and is none."""

    def __init__(self, page):
        self.page = page

    def __eq__(self, other):
        return self.page == other

    def __hash__(self):
        return hash(self.page)


class IsVisitsTest(CallTest):
    def test_visits(self):
        for value in ([], [0], [39], [0, 0], V, LONG, list(range(40)), [0] * 300, [39] * 300):
            self.check_call(True, is_visits, value=value)

    def test_others(self):
        for value in NO_VISITS:
            with self.subTest(value=repr(value)[:100]):
                self.assertIs(is_visits(value), False)


class IsTrailTest(CallTest):
    def test_trails(self):
        for value in ([], [0], [39], [3, 1, 2], list(range(40)), list(range(39, -1, -1))):
            self.check_call(True, is_trail, value=value)

    def test_others(self):
        for value in NO_TRAILS:
            with self.subTest(value=repr(value)[:100]):
                self.assertIs(is_trail(value), False)


class TrailAfterTest(CallTest):
    def test_document(self):
        self.check_call([0, 1], trail_after, visits=V)
        self.check_call([3, 0, 1], trail_after, visits=V, start=[3, 5])

    def test_start(self):
        self.check_call([], trail_after, visits=[])
        self.check_call([], trail_after, visits=[], start=None)
        self.check_call([], trail_after, visits=[], start=[])
        self.check_call([5, 3], trail_after, visits=[], start=[5, 3])
        self.check_call([0, 1], trail_after, visits=V, start=None)
        self.check_call([0, 1], trail_after, visits=V, start=[])
        self.check_call(list(range(40)), trail_after, visits=[], start=list(range(40)))
        self.check_call(list(range(40)), trail_after, visits=[39], start=list(range(40)))
        self.check_call([0], trail_after, visits=[0], start=list(range(40)))

    def test_start_is_given_by_name_only(self):
        with self.assertRaises(TypeError):
            trail_after([0], [1])

    def test_edges(self):
        self.check_call([0], trail_after, visits=[0] * 300)
        self.check_call([39], trail_after, visits=[39, 0, 39])
        self.check_call([39, 0], trail_after, visits=[39, 0])
        self.check_call(list(range(39, -1, -1)), trail_after, visits=list(range(39, -1, -1)))
        self.check_call(simulated(LONG), trail_after, visits=LONG)

    def test_small_visits(self):
        starts = [list(start) for size in range(4) for start in itertools.permutations(range(4), size)]
        for visits in small_visits():
            self.assertEqual(trail_after(visits), simulated(visits))
            for start in starts:
                self.assertEqual(trail_after(visits, start=start), simulated(visits, start))

    def test_large_visits(self):
        for visits in some_visits():
            self.check_call(simulated(visits), trail_after, visits=visits)
            start = list(range(39, 4, -1))
            self.check_call(simulated(visits, start), trail_after, visits=visits, start=start)

    def test_start_is_copied(self):
        start = [4, 5]
        trail_after([], start=start).append(6)
        trail_after([5], start=start).append(6)
        self.assertEqual(start, [4, 5])

    def test_errors(self):
        self.check_wrong(trail_after, {"visits": V, "start": [1]},
                         [("visits", InvalidVisitsError, NO_VISITS), ("start", InvalidTrailError, NO_STARTS)])
        self.check_error(InvalidVisitsError, trail_after, None)


class TrailsAlongTest(CallTest):
    def test_document(self):
        self.check_call([[0], [0, 1], [0]], trails_along, visits=[0, 1, 0])

    def test_yields(self):
        self.assertIsInstance(trails_along(V), types.GeneratorType)
        self.check_call([], trails_along, visits=[])
        self.check_call([[39]], trails_along, visits=[39])
        self.check_call([[0]] * 300, trails_along, visits=[0] * 300)

    def test_small_visits(self):
        for visits in small_visits():
            told = [simulated(visits[:end]) for end in range(1, len(visits) + 1)]
            self.assertEqual(list(trails_along(visits)), told)

    def test_large_visits(self):
        for visits in some_visits():
            told = [simulated(visits[:end]) for end in range(1, len(visits) + 1)]
            self.check_call(told, trails_along, visits=visits)

    def test_yielded_lists_may_be_changed(self):
        seen = []
        for trail in trails_along([0, 1, 2, 2, 1, 3]):
            seen.append(list(trail))
            trail.clear()
        self.assertEqual(seen, [[0], [0, 1], [0, 1, 2], [0, 1, 2], [0, 1], [0, 1, 3]])

    def test_visits_may_be_changed_between_the_trails(self):
        visits = [0, 1, 2]
        seen = []
        for trail in trails_along(visits):
            seen.append(trail)
            visits.clear()
        self.assertEqual(seen, [[0], [0, 1], [0, 1, 2]])

    def test_errors(self):
        self.check_wrong(trails_along, {"visits": V}, [("visits", InvalidVisitsError, NO_VISITS)])


class StaysTest(CallTest):
    def test_document(self):
        told = [(0, 0, None), (1, 1, 3), (2, 2, 3), (4, 2, 6), (5, 3, 6), (7, 1, None)]
        self.check_call(told, stays, visits=V)

    def test_edges(self):
        self.check_call([], stays, visits=[])
        self.check_call([(0, 39, None)], stays, visits=[39])
        self.check_call([(0, 0, None)], stays, visits=[0] * 300)
        self.check_call([(0, 5, None), (1, 6, 2), (3, 6, None)], stays, visits=[5, 6, 5, 6, 6])
        self.check_call([(page, page, None) for page in range(40)], stays, visits=list(range(40)))
        told = [(0, 0, None), *[(page, page, 40) for page in range(1, 40)]]
        self.check_call(told, stays, visits=[*range(40), 0])

    def test_small_visits(self):
        for visits in small_visits():
            self.assertEqual(stays(visits), told_stays(visits))

    def test_large_visits(self):
        for visits in some_visits():
            if len(visits) < 100:
                self.check_call(told_stays(visits), stays, visits=visits)

    def test_most_visits(self):
        visits = [0, 1] * 150
        told = [(0, 0, None), *[(index, 1, index + 1) for index in range(1, 299, 2)], (299, 1, None)]
        self.check_call(told, stays, visits=visits)

    def test_errors(self):
        self.check_wrong(stays, {"visits": V}, [("visits", InvalidVisitsError, NO_VISITS)])


class CutsTest(CallTest):
    def test_document(self):
        self.check_call([(3, [1, 2]), (6, [2, 3])], cuts, visits=V)

    def test_edges(self):
        self.check_call([], cuts, visits=[])
        self.check_call([], cuts, visits=[39])
        self.check_call([], cuts, visits=list(range(40)))
        self.check_call([(1, [])], cuts, visits=[0, 0])
        self.check_call([(40, list(range(1, 40)))], cuts, visits=[*range(40), 0])
        self.check_call([(40, [])], cuts, visits=[*range(40), 39])
        self.check_call([(index, []) for index in range(1, 300)], cuts, visits=[0] * 300)
        self.check_call([(3, [2, 9]), (4, [])], cuts, visits=[5, 2, 9, 5, 5])

    def test_small_visits(self):
        for visits in small_visits():
            self.assertEqual(cuts(visits), told_cuts(visits))

    def test_large_visits(self):
        for visits in some_visits():
            self.check_call(told_cuts(visits), cuts, visits=visits)

    def test_each_visit_is_a_stay_or_a_cut(self):
        for visits in some_visits():
            indexes = [stay[0] for stay in stays(visits)] + [cut[0] for cut in cuts(visits)]
            self.assertEqual(sorted(indexes), list(range(len(visits))))

    def test_errors(self):
        self.check_wrong(cuts, {"visits": V}, [("visits", InvalidVisitsError, NO_VISITS)])


class VisitsOfTest(CallTest):
    def test_document(self):
        self.check_call([0, 1, 0], visits_of, trails=[[0], [0, 1], [0]])
        self.check_call(None, visits_of, trails=[[0], [1]])

    def test_no_trails(self):
        self.check_call([], visits_of, trails=[])

    def test_none(self):
        for trails in ([[]], [[0], []], [[], [0]], [[0, 1]], [[0], [0, 1, 2]], [[0], [1, 0]], [[0], [0, 1], [1]],
                       [[0], [0, 1], [0, 2]], [[0], [0, 1], [1, 0]], [list(range(40))], [[0]] * 299 + [[1]]):
            self.check_call(None, visits_of, trails=trails)

    def test_back_from_trails(self):
        for visits in [*small_visits(), *some_visits()]:
            self.assertEqual(visits_of(list(trails_along(visits))), visits)
        self.check_call([0] * 300, visits_of, trails=[[0] for _ in range(300)])
        self.check_call([39], visits_of, trails=[[39]])

    def test_most_trails(self):
        for visits in (list(range(40)) * 7, [*range(40)] + [*range(39, -1, -1)] * 6, LONG):
            trails = list(trails_along(visits))
            self.check_call(visits, visits_of, trails=trails)
            self.check_call(None, visits_of, trails=trails[1:])
            self.check_call(None, visits_of, trails=[*trails[:-1], []])
            self.check_call(None, visits_of, trails=[*trails[:-1], [39, 3]])

    def test_one_trail_is_another_one(self):
        drawn = random.Random(15)
        for visits in some_visits():
            told = list(trails_along(visits))
            for _ in range(20):
                at = drawn.randrange(len(visits))
                page = drawn.randrange(40)
                trails = [list(trail) for trail in told]
                trails[at] = drawn.choice([[page], trails[at][:-1], trails[at][1:], trails[at][::-1],
                                           [other for other in trails[at] if other != page] + [page]])
                ends = [trail[-1:] for trail in trails]
                found = [page for end in ends for page in end]
                fits = [] not in ends and list(trails_along(found)) == trails
                self.check_same(found if fits else None, visits_of(trails))

    def test_one_trail_is_wrong(self):
        trails = list(trails_along(list(range(40)) * 7))
        for at in (0, 1, 2, 39, 40, 41, 279):
            for wrong in (True, [True], (0,), None, [*trails[at], trails[at][0]], [*trails[at][:-1], 40],
                          [*trails[at][:-1], -1], [False, *trails[at][1:]], [0.0, *trails[at][1:]],
                          [Same(0), *trails[at][1:]], tuple(trails[at])):
                for others in (trails, [[5, 6]] * 280):
                    value = [*others[:at], wrong, *others[at + 1:]]
                    self.check_error(InvalidTrailError, visits_of, value)

    def test_all_small_lists(self):
        trails = [[], [0], [1], [0, 1], [1, 0]]
        known = {repr([simulated(visits[:end]) for end in range(1, len(visits) + 1)]): visits
                 for visits in small_visits()}
        for size in range(4):
            for chosen in itertools.product(trails, repeat=size):
                value = [list(trail) for trail in chosen]
                self.assertEqual(visits_of(value), known.get(repr(value)))

    def test_errors(self):
        wrong = [value for value in NO_TRAILS if value != []]
        lists = [[value] for value in wrong] + [[[0], value] for value in wrong] + [[[], value] for value in wrong]
        others = [None, True, 1, 1.0, "", "0", b"", (), ([0],), {}, {0}, [0], [[0]] * 301, [[]] * 301, [([0])] + [0],
                  [(0,)], [[0], (0, 1)], [[0], [0, True]], [[False]]]
        self.check_wrong(visits_of, {"trails": [[0]]}, [("trails", InvalidTrailError, [*lists, *others])])


if __name__ == "__main__":
    unittest.main()
