"""The shortest lists of visits: [2], [15] and [16]."""

import itertools
import math
import random
import unittest

from breadcrumbs.errors import InvalidEffectError, InvalidNumberError, InvalidVisitsError
from breadcrumbs.exits import Effect, effect_of, nth_effect
from breadcrumbs.lists import count_shortest, fewest_visits, is_shortest, nth_shortest, shortest_rank
from tests.helper import NO_NUMBERS, NO_VISITS, NOT_EFFECTS, CallTest, V, last_visits

STAR_VISITS = [5, 6, 5, 7, 5]
CHAIN = [(page, page + 1) for page in range(39)] + [(39, 39)]
# One page is the exit of 39 leaves.
STAR = [(page, 7) for page in range(40)]


def quick_effect(visits):
    targets = dict(zip(visits, visits[1:] + visits[-1:]))
    return (visits[0] if visits else None, tuple(sorted(targets.items())))


def all_lists(many, most):
    """All lists of at most so many visits of the pages 0 to many - 1, in the order of their sizes."""
    return [list(visits) for size in range(most + 1) for visits in itertools.product(range(many), repeat=size)]


def shortest_lists(many, most):
    """The shortest lists of all effects of these pages, by trying all lists of visits."""
    found = {}
    for visits in all_lists(many, most):
        lists = found.setdefault(quick_effect(visits), [])
        if not lists or len(lists[0]) == len(visits):
            lists.append(visits)
    return found


def told_lists(first, exits):
    """The shortest lists as [15] tells them, for effects of more pages."""
    leaves = [page for page, _ in exits if page not in [target for other, target in exits if other != page]]
    others = [leaf for leaf in leaves if leaf != first]
    lists = []
    for order in itertools.permutations(others):
        done, visits = [], [] if first in leaves else [first]
        for leaf in ([first] if first in leaves else []) + list(order):
            page = leaf
            while True:
                visits.append(page)
                done.append(page)
                target = dict(exits)[page]
                if target == page:
                    break
                beside = [other for other, exit_ in exits if exit_ == target and other not in (page, target)]
                if not all(other in done for other in beside):
                    visits.append(target)
                    break
                page = target
        lists.append(visits)
    return sorted(lists)


class DocumentTest(CallTest):
    def test_document(self):
        effect = effect_of(V)
        self.check_call(5, fewest_visits, effect=effect)
        self.check_call(1, count_shortest, effect=effect)
        self.check_call([0, 2, 3, 0, 1], nth_shortest, effect=effect, index=0)
        self.check_call(True, is_shortest, visits=[0, 1, 0])
        star = effect_of(STAR_VISITS)
        self.check_call(5, fewest_visits, effect=star)
        self.check_call([5, 7, 5, 6, 5], nth_shortest, effect=star, index=1)
        self.check_call(0, shortest_rank, visits=STAR_VISITS)
        self.check_call(False, is_shortest, visits=[5, 6, 6, 5])


class SearchTest(CallTest):
    """Compares with a search over all lists of visits."""

    @classmethod
    def setUpClass(cls):
        # The effects of 4 pages have at most 3 leaves, so at most 7 visits are needed.
        cls.found = shortest_lists(4, 7)

    def test_all_effects_are_found(self):
        counts = [len([first for first, exits in self.found if len(exits) == many]) for many in range(5)]
        self.assertEqual(counts, [1, 4 * 1, 6 * 4, 4 * 27, 256])

    def test_fewest_and_count(self):
        for (first, exits), lists in self.found.items():
            effect = Effect(first, list(exits))
            self.check_same(len(lists[0]), fewest_visits(effect))
            self.check_same(len(lists), count_shortest(effect))

    def test_nth(self):
        for (first, exits), lists in self.found.items():
            effect = Effect(first, list(exits))
            self.check_same(sorted(lists), [nth_shortest(effect, index) for index in range(len(lists))])
            self.check_error(InvalidNumberError, nth_shortest, effect, len(lists))

    def test_rank(self):
        for lists in self.found.values():
            for index, visits in enumerate(sorted(lists)):
                self.check_same(index, shortest_rank(visits))

    def test_is_shortest(self):
        for visits in all_lists(3, 6) + all_lists(4, 4):
            short = visits in self.found[quick_effect(visits)]
            self.check_same(short, is_shortest(visits))
            if not short:
                self.check_error(InvalidVisitsError, shortest_rank, visits)

    def test_formula(self):
        for first, exits in self.found:
            effect = Effect(first, list(exits))
            many, leaves = len(exits), len(effect.leaves)
            self.assertEqual(fewest_visits(effect), many + leaves - (first in effect.leaves))
            self.assertEqual(count_shortest(effect), math.factorial(leaves - (first in effect.leaves)))


class DrawnTest(CallTest):
    """Compares with the lists that the document tells, for more pages."""

    def test_drawn_effects(self):
        drawn = random.Random(11)
        for many in (5, 6, 7, 8, 9) * 6:
            effect = nth_effect(many, drawn.randrange(many ** many))
            lists = told_lists(effect.first, effect.exits)
            self.assertEqual(count_shortest(effect), len(lists))
            for index in {0, 1, len(lists) // 2, len(lists) - 1, drawn.randrange(len(lists))}:
                if index < len(lists):
                    self.check_same(lists[index], nth_shortest(effect, index))
                    self.assertEqual(shortest_rank(lists[index]), index)
                    self.assertIs(is_shortest(lists[index]), True)
                    self.assertEqual(len(lists[index]), fewest_visits(effect))
                    self.assertEqual(last_visits(lists[index]), (effect.first, effect.exits))

    def test_there_and_back(self):
        drawn = random.Random(12)
        for many in (10, 20, 30, 39, 40) * 4:
            effect = nth_effect(many, drawn.randrange(many ** many))
            count = count_shortest(effect)
            for index in (0, count - 1, *[drawn.randrange(count) for _ in range(5)]):
                visits = nth_shortest(effect, index)
                self.assertEqual(len(visits), fewest_visits(effect))
                self.assertEqual(last_visits(visits), (effect.first, effect.exits))
                self.assertEqual(shortest_rank(visits), index)
                if index + 1 < count:
                    self.assertLess(visits, nth_shortest(effect, index + 1))


class EdgesTest(CallTest):
    def test_no_visits(self):
        none = Effect(None, [])
        self.check_call(0, fewest_visits, effect=none)
        self.check_call(1, count_shortest, effect=none)
        self.check_call([], nth_shortest, effect=none, index=0)
        self.check_call(True, is_shortest, visits=[])
        self.check_call(0, shortest_rank, visits=[])
        self.check_error(InvalidNumberError, nth_shortest, none, 1)
        self.check_error(InvalidNumberError, nth_shortest, none, -1)

    def test_one_page(self):
        for page in (0, 39):
            effect = Effect(page, [(page, page)])
            self.check_call(1, fewest_visits, effect=effect)
            self.check_call(1, count_shortest, effect=effect)
            self.check_call([page], nth_shortest, effect=effect, index=0)
            self.check_call(True, is_shortest, visits=[page])
            self.check_call(False, is_shortest, visits=[page, page])
            self.check_call(0, shortest_rank, visits=[page])
            self.check_error(InvalidNumberError, nth_shortest, effect, 1)

    def test_chains(self):
        leaf_first = Effect(0, CHAIN)
        self.check_call(40, fewest_visits, effect=leaf_first)
        self.check_call(1, count_shortest, effect=leaf_first)
        self.check_call(list(range(40)), nth_shortest, effect=leaf_first, index=0)
        other_first = Effect(20, CHAIN)
        self.check_call(41, fewest_visits, effect=other_first)
        self.check_call(1, count_shortest, effect=other_first)
        self.check_call([20, *range(40)], nth_shortest, effect=other_first, index=0)
        self.check_call(0, shortest_rank, visits=[20, *range(40)])
        self.check_call([39, *range(40)], nth_shortest, effect=Effect(39, CHAIN), index=0)

    def test_stars_of_40_pages(self):
        leaves = [page for page in range(40) if page != 7]
        count = math.factorial(39)
        star = Effect(7, STAR)
        self.check_call(79, fewest_visits, effect=star)
        self.check_call(count, count_shortest, effect=star)
        first = [7, *[page for leaf in leaves for page in (leaf, 7)]]
        last = [7, *[page for leaf in reversed(leaves) for page in (leaf, 7)]]
        self.check_call(first, nth_shortest, effect=star, index=0)
        self.check_call(last, nth_shortest, effect=star, index=count - 1)
        self.check_call(0, shortest_rank, visits=first)
        self.check_call(count - 1, shortest_rank, visits=last)
        self.check_call(True, is_shortest, visits=last)
        self.check_call(False, is_shortest, visits=[*last, 7])
        self.check_error(InvalidNumberError, nth_shortest, star, count)
        self.check_error(InvalidVisitsError, shortest_rank, [*last, 7])

    def test_star_with_a_leaf_first(self):
        count = math.factorial(38)
        star = Effect(39, STAR)
        leaves = [page for page in range(39) if page != 7]
        self.check_call(78, fewest_visits, effect=star)
        self.check_call(count, count_shortest, effect=star)
        last = [39, 7, *[page for leaf in reversed(leaves) for page in (leaf, 7)]]
        self.check_call(last, nth_shortest, effect=star, index=count - 1)
        self.check_call(count - 1, shortest_rank, visits=last)
        self.check_error(InvalidNumberError, nth_shortest, star, count)

    def test_not_the_shortest(self):
        self.check_call(False, is_shortest, visits=V)
        self.check_call(False, is_shortest, visits=[0] * 300)
        self.check_call(True, is_shortest, visits=[0, 1, 2])
        self.check_call(True, is_shortest, visits=[0, 2, 3, 0, 1])
        for visits in (V, [0, 0], [0, 1, 1], [0, 1, 0, 1], [39] * 300, [5, 6, 6, 5]):
            self.check_error(InvalidVisitsError, shortest_rank, visits)

    def test_result_may_be_changed(self):
        effect = effect_of(STAR_VISITS)
        found = nth_shortest(effect, 0)
        found.clear()
        self.assertEqual(nth_shortest(effect, 0), STAR_VISITS)
        self.assertEqual(effect, effect_of(STAR_VISITS))


class ErrorsTest(CallTest):
    def test_effects(self):
        for function in (fewest_visits, count_shortest):
            self.check_wrong(function, {"effect": effect_of(V)}, [("effect", InvalidEffectError, NOT_EFFECTS)])

    def test_nth(self):
        self.check_wrong(nth_shortest, {"effect": effect_of(STAR_VISITS), "index": 0},
                         [("effect", InvalidEffectError, NOT_EFFECTS),
                          ("index", InvalidNumberError, [*NO_NUMBERS, 2, 3, "0", [0]])])

    def test_visits(self):
        for function in (is_shortest, shortest_rank):
            self.check_wrong(function, {"visits": [0, 1]}, [("visits", InvalidVisitsError, NO_VISITS)])


if __name__ == "__main__":
    unittest.main()
