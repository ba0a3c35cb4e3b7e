"""Effects: [2], [9], [13] and [14]."""

import itertools
import random
import unittest

from breadcrumbs.errors import InvalidEffectError, InvalidNumberError, InvalidTrailError, InvalidVisitsError
from breadcrumbs.exits import (Effect, count_effects, effect_of, effect_rank, nth_effect, parting_trail,
                               same_effect)
from tests.helper import (LONG, NO_MANY, NO_NUMBERS, NO_TRAILS, NO_VISITS, STRANGE, CallTest, V, last_visits,
                          simulated, small_visits, some_visits)

CHAIN = [(page, page + 1) for page in range(39)] + [(39, 39)]
STAR = [(page, 7) for page in range(40)]

# (first, exits), each wrong in one way only.
NO_EFFECTS = [
    (None, [(0, 0)]), (0, []), (1, [(0, 0)]), (True, [(0, 1), (1, 1)]), (False, [(0, 0)]), (0.0, [(0, 0)]),
    ("0", [(0, 0)]), ([0], [(0, 0)]), ((0,), [(0, 0)]), (-1, [(0, 0)]), (40, [(0, 0)]), (2, [(0, 1), (1, 1)]),
    (0, None), (0, ()), (0, ((0, 0),)), (0, {0: 0}), (0, {(0, 0)}), (0, "00"), (0, 0), (0, [[0, 0]]),
    (None, None), (None, ()), (None, {}), (None, 0), (None, ""), (None, False), (None, [None]), (None, [()]),
    (0, [(0,)]), (0, [(0, 0, 0)]), (0, [()]), (0, [0]), (0, ["00"]), (0, [None]), (0, [(0, 0), None]),
    (0, [(0, 0), [1, 0]]), (0, [(0, False)]), (0, [(False, 0)]), (1, [(1, True)]), (1, [(True, 1)]),
    (0, [(0, 0.0)]), (0, [(0.0, 0)]), (0, [(0, None)]), (0, [(0, "0")]), (0, [([0], 0)]), (0, [(0, [0])]),
    (0, [(1, 1), (0, 1)]), (0, [(0, 0), (0, 0)]), (0, [(0, 1), (0, 1), (1, 1)]), (0, [(0, 0), (0, 1), (1, 0)]),
    (0, [(0, 1), (1, 1), (1, 1)]), (0, [(0, 0), (1, 1)]), (0, [(0, 1), (1, 0)]), (0, [(0, 0), (1, 2), (2, 1)]),
    (0, [(0, 1)]), (0, [(0, 1), (2, 2)]), (0, [(0, 0), (2, 1)]), (0, [(0, 1), (1, 2), (2, 0)]),
    (0, [(0, 1), (1, 2), (2, 0), (3, 3)]), (40, [(40, 40)]), (-1, [(-1, -1)]), (0, [(0, 0), (40, 0)]),
    (0, [(-1, 0), (0, 0)]), (0, [(0, 0), (1, -1)]), (0, [(0, 0), (1, 40)]), (0, [(0, 40)]),
    (0, [(page, 0) for page in range(41)]), (0, [(page, (page + 1) % 40) for page in range(40)]),
    (0, [(0, 1), (1, 2), (2, 3), (3, 1), (4, 4)]),
]


class Anything:
    """Is equal to all values, as far as it is asked."""

    def __eq__(self, other):
        return True


class MuchLikeIt:
    first = 0
    last = 0
    exits = [(0, 0)]
    leaves = [0]
    _first = 0
    _exits = [(0, 0)]

    def __len__(self):
        return 1


def parts(effect):
    return (effect.first, effect.exits)


def all_exits(many):
    """All lists of exits of the pages 0 to many - 1, in order, by trying all functions."""
    found = []
    for targets in itertools.product(range(many), repeat=many):
        lasts = [page for page in range(many) if targets[page] == page]
        if len(lasts) == 1:
            ends = list(range(many))
            for _ in range(many):
                ends = [targets[page] for page in ends]
            if set(ends) == set(lasts):
                found.append([(page, targets[page]) for page in range(many)])
    return found


def all_trails(many):
    return [list(trail) for size in range(many + 1) for trail in itertools.permutations(range(many), size)]


def with_pages(exits, pages):
    """The exits with other pages, which ascend as the old ones do."""
    return [(pages[page], pages[target]) for page, target in exits]


class EffectTest(CallTest):
    def test_document(self):
        effect = effect_of(V)
        self.check_same(0, effect.first)
        self.check_same([(0, 1), (1, 1), (2, 3), (3, 0)], effect.exits)
        self.check_same(1, effect.last)
        self.check_same([2], effect.leaves)
        self.check_same(4, len(effect))
        self.assertIs(3 in effect, True)
        self.check_same([3, 0, 1], effect([3, 5]))
        self.assertTrue(effect + effect == effect)
        self.assertTrue(effect_of([0, 1]) + effect_of([2, 0]) == effect_of([0, 1, 2, 0]))

    def test_no_visits(self):
        effect = Effect(None, [])
        self.assertIsNone(effect.first)
        self.assertIsNone(effect.last)
        self.check_same([], effect.exits)
        self.check_same([], effect.leaves)
        self.check_same(0, len(effect))
        self.assertIs(0 in effect, False)
        self.assertIs(None in effect, False)
        for trail in ([], [0], [5, 3], list(range(40))):
            self.check_same(trail, effect(trail))

    def test_one_page(self):
        for page in (0, 39):
            effect = Effect(page, [(page, page)])
            self.assertEqual((effect.first, effect.exits, effect.last), (page, [(page, page)], page))
            self.assertEqual((effect.leaves, len(effect)), ([page], 1))
            self.assertEqual([effect([]), effect([page]), effect([5, page, 7]), effect([5])],
                             [[page], [page], [5, page], [5, page]])

    def test_all_pages(self):
        chain = Effect(3, CHAIN)
        self.assertEqual((len(chain), chain.last, chain.leaves, chain.first), (40, 39, [0], 3))
        self.check_same(list(range(3, 40)), chain([]))
        self.check_same(list(range(40)), chain([0, 39]))
        star = Effect(7, STAR)
        self.assertEqual((len(star), star.last), (40, 7))
        self.check_same([page for page in range(40) if page != 7], star.leaves)
        self.check_same([39, 7], star(list(range(39, -1, -1))))

    def test_arguments_by_name(self):
        self.assertEqual(parts(Effect(first=1, exits=[(0, 1), (1, 1)])), (1, [(0, 1), (1, 1)]))
        self.assertEqual(parts(Effect(1, [(0, 1), (1, 1)])), (1, [(0, 1), (1, 1)]))
        self.assertEqual(Effect(0, [(0, 0)])(trail=[5]), [5, 0])

    def test_all_small_effects_are_accepted(self):
        for many in range(1, 5):
            for pages in (list(range(many)), [39 - many + page for page in range(1, many + 1)], [0, 3, 9, 39][:many]):
                for exits in all_exits(many):
                    for first in pages:
                        effect = Effect(first, with_pages(exits, pages))
                        self.assertEqual(parts(effect), (first, with_pages(exits, pages)))

    def test_all_small_functions(self):
        for many in range(1, 5):
            good = all_exits(many)
            for targets in itertools.product(range(many), repeat=many):
                exits = list(enumerate(targets))
                if exits in good:
                    Effect(0, exits)
                else:
                    self.check_error(InvalidEffectError, Effect, 0, exits)

    def test_wrong_parts(self):
        for first, exits in NO_EFFECTS:
            self.check_error(InvalidEffectError, Effect, first, exits)
            self.check_error(InvalidEffectError, Effect, first=first, exits=exits)
        for value in [*STRANGE, *NO_NUMBERS]:
            if value != 0 or not isinstance(value, int) or isinstance(value, bool):
                self.check_error(InvalidEffectError, Effect, value, [(0, 0)])
            self.check_error(InvalidEffectError, Effect, 0, value)
            if value != []:
                self.check_error(InvalidEffectError, Effect, None, value)

    def test_stores_copies(self):
        exits = [(0, 1), (1, 1)]
        effect = Effect(0, exits)
        exits.append((2, 1))
        self.assertEqual(effect.exits, [(0, 1), (1, 1)])
        effect.exits.clear()
        effect.leaves.clear()
        self.assertEqual((effect.exits, effect.leaves, effect.last), ([(0, 1), (1, 1)], [0], 1))

    def test_properties_cannot_be_set(self):
        effect = Effect(0, [(0, 0)])
        for name in ("first", "exits", "last", "leaves"):
            with self.assertRaises(AttributeError):
                setattr(effect, name, None)

    def test_defined_in_the_class(self):
        for name in ("__init__", "__len__", "__contains__", "__eq__", "__call__", "__add__", "first", "exits",
                     "last", "leaves"):
            self.assertIn(name, vars(Effect))


class PropertiesTest(CallTest):
    def test_last_and_leaves(self):
        for many in range(1, 5):
            for exits in all_exits(many):
                effect = Effect(0, exits)
                lasts = [page for page, target in exits if page == target]
                self.assertEqual([effect.last], lasts)
                leaves = [page for page in range(many)
                          if not any(target == page and source != page for source, target in exits)]
                self.check_same(leaves, effect.leaves)

    def test_in(self):
        effect = Effect(0, [(0, 1), (1, 39), (39, 39)])
        self.assertEqual([page for page in range(-3, 45) if page in effect], [0, 1, 39])
        for value in (True, False, None, 1.0, 0.0, "0", "", b"0", [], [0], (0, 1), {}, {0}, object(), effect, Effect,
                      Anything(), 10 ** 30, -1):
            self.assertIs(value in effect, False)


class EqualTest(CallTest):
    def test_equal(self):
        self.assertIs(Effect(0, [(0, 1), (1, 1)]) == Effect(0, [(0, 1), (1, 1)]), True)
        self.assertIs(Effect(0, [(0, 1), (1, 1)]) != Effect(0, [(0, 1), (1, 1)]), False)
        self.assertIs(Effect(None, []) == Effect(None, []), True)
        self.assertIs(Effect(None, []) == effect_of([]), True)

    def test_not_equal(self):
        effects = [Effect(None, [])]
        for many in (1, 2, 3):
            effects.extend(Effect(first, exits) for exits in all_exits(many) for first in range(many))
        for at, one in enumerate(effects):
            for beside, two in enumerate(effects):
                self.assertIs(one == two, at == beside)
                self.assertIs(one != two, at != beside)
        self.assertFalse(Effect(0, [(0, 0)]) == Effect(1, [(1, 1)]))

    def test_other_values(self):
        for effect in (Effect(0, [(0, 0)]), Effect(None, [])):
            for value in (0, None, True, False, [], [(0, 0)], (0, [(0, 0)]), "", "effect", {}, Effect, object(),
                          Anything(), MuchLikeIt()):
                self.assertIs(effect == value, False)
                self.assertIs(effect != value, True)
            self.assertIs([] == effect, False)
            self.assertIs(None == effect, False)


class CallEffectTest(CallTest):
    def test_all_small(self):
        trails = all_trails(4)
        for visits in small_visits():
            effect = effect_of(visits)
            for trail in trails:
                self.assertEqual(effect(trail), simulated(visits, trail))

    def test_large(self):
        drawn = random.Random(3)
        for visits in some_visits():
            effect = effect_of(visits)
            for size in (0, 1, 5, 20, 39, 40):
                trail = drawn.sample(range(40), size)
                before = list(trail)
                self.check_same(simulated(visits, trail), effect(trail))
                self.assertEqual(trail, before)

    def test_new_list(self):
        trail = [3, 5]
        for effect in (Effect(None, []), Effect(0, [(0, 0)]), Effect(5, [(5, 5)])):
            found = effect(trail)
            found.append("spoiled")
            self.assertEqual(trail, [3, 5])
            self.assertNotIn("spoiled", effect(trail))

    def test_errors(self):
        for effect in (Effect(None, []), Effect(0, [(0, 0)])):
            for value in NO_TRAILS:
                with self.subTest(value=value):
                    with self.assertRaises(InvalidTrailError) as caught:
                        effect(value)
                    self.assertIs(type(caught.exception), InvalidTrailError)


class SumTest(CallTest):
    def test_small(self):
        lists = [list(visits) for size in range(5) for visits in itertools.product(range(3), repeat=size)]
        for one in lists[:60]:
            for two in lists:
                self.assertEqual(parts(effect_of(one) + effect_of(two)), last_visits(one + two))
                self.assertEqual(parts(effect_of(two) + effect_of(one)), last_visits(two + one))

    def test_large(self):
        for one in some_visits():
            for two in some_visits():
                former, latter = effect_of(one), effect_of(two)
                self.assertEqual(parts(former + latter), last_visits(one + two))
                self.assertEqual(parts(former), last_visits(one))
                self.assertEqual(parts(latter), last_visits(two))

    def test_no_visits(self):
        none, effect = Effect(None, []), effect_of(V)
        self.assertTrue(none + effect == effect)
        self.assertTrue(effect + none == effect)
        self.assertTrue(none + none == none)
        self.assertIsInstance(none + none, Effect)

    def test_edges(self):
        self.assertEqual(parts(Effect(0, CHAIN) + Effect(0, [(0, 0)])), (0, [(0, 0), *CHAIN[1:39], (39, 0)]))
        self.assertEqual(parts(Effect(0, [(0, 0)]) + Effect(0, CHAIN)), (0, CHAIN))


class EffectOfTest(CallTest):
    def test_document(self):
        self.check_call(Effect(0, [(0, 1), (1, 1), (2, 3), (3, 0)]), effect_of, visits=V)
        self.check_call(Effect(None, []), effect_of, visits=[])

    def test_edges(self):
        self.check_call(Effect(0, [(0, 0)]), effect_of, visits=[0] * 300)
        self.check_call(Effect(39, [(39, 39)]), effect_of, visits=[39])
        self.check_call(Effect(0, CHAIN), effect_of, visits=list(range(40)))
        self.check_call(Effect(5, [(5, 6), (6, 6)]), effect_of, visits=[5, 5, 6, 6])

    def test_definition(self):
        for visits in [*small_visits(), *some_visits(), LONG]:
            effect = effect_of(visits)
            self.check_same(last_visits(visits), parts(effect))
            self.assertEqual(effect.last, visits[-1] if visits else None)
            self.assertEqual(effect([]), simulated(visits))

    def test_twice_is_once(self):
        for visits in [*small_visits(), *[visits for visits in some_visits() if len(visits) <= 150]]:
            self.assertEqual(effect_of(visits + visits), effect_of(visits))

    def test_errors(self):
        self.check_wrong(effect_of, {"visits": V}, [("visits", InvalidVisitsError, NO_VISITS)])


class SameEffectTest(CallTest):
    def test_document(self):
        self.check_call(True, same_effect, one=V, two=[0, 2, 3, 0, 1])

    def test_same_on_all_trails(self):
        trails = all_trails(4)
        known = {}
        lists = [list(visits) for size in range(7) for visits in itertools.product(range(3), repeat=size)]
        for visits in lists:
            key = repr([simulated(visits, trail) for trail in trails])
            other = known.setdefault(key, visits)
            self.assertIs(same_effect(visits, other), True)
        self.assertEqual(len(known), 1 + 3 * 1 + 3 * 4 + 27)
        for one, two in itertools.permutations(known.values(), 2):
            self.assertIs(same_effect(one, two), False)

    def test_edges(self):
        self.check_call(True, same_effect, one=[], two=[])
        self.check_call(False, same_effect, one=[], two=[0])
        self.check_call(False, same_effect, one=[0], two=[])
        self.check_call(True, same_effect, one=[0] * 300, two=[0])
        self.check_call(False, same_effect, one=[0], two=[39])
        self.check_call(False, same_effect, one=[0, 1, 0], two=[0])
        self.check_call(False, same_effect, one=[1, 0, 1], two=[0, 1])

    def test_errors(self):
        self.check_wrong(same_effect, {"one": V, "two": V},
                         [("one", InvalidVisitsError, NO_VISITS), ("two", InvalidVisitsError, NO_VISITS)])


class PartingTrailTest(CallTest):
    def check_parting(self, one, two):
        before = (list(one), list(two))
        trail = parting_trail(one, two)
        if last_visits(one) == last_visits(two):
            self.assertIsNone(trail)
            return
        self.assertIs(type(trail), list)
        self.assertEqual(len(set(trail)), len(trail))
        self.assertTrue(all(type(page) is int and 0 <= page < 40 for page in trail))
        self.assertNotEqual(simulated(one, trail), simulated(two, trail))
        self.assertEqual((one, two), before)
        self.assertEqual(parting_trail(one=one, two=two), trail)
        trail.append("spoiled")
        self.assertNotIn("spoiled", parting_trail(one, two))

    def test_small(self):
        lists = [list(visits) for size in range(4) for visits in itertools.product(range(3), repeat=size)]
        for one in lists:
            for two in lists:
                self.check_parting(one, two)

    def test_hard_to_part(self):
        self.check_parting([0, 1, 0], [0])
        self.check_parting([0], [0, 1, 0])
        self.check_parting([1, 0, 1], [1])
        self.check_parting([0], [])
        self.check_parting([], [0])
        self.check_parting([*range(40), *range(39)], list(range(40)))
        self.check_parting([0, 39, 0], [0])
        full = [page for leaf in range(1, 40) for page in (0, leaf)] + [0]
        self.check_parting(full, [0])
        self.check_parting(full, [page for page in full if page != 17])
        self.check_parting([page for page in full if page != 1], full)

    def test_large(self):
        for one in some_visits():
            for two in some_visits():
                self.check_parting(one, two)

    def test_drawn_pairs(self):
        drawn = random.Random(13)
        parted = 0
        for many in (1, 2, 3, 4, 7, 40):
            for _ in range(300):
                one = drawn.choices(range(many), k=drawn.randrange(60))
                two = drawn.choices(range(many), k=drawn.randrange(60))
                self.check_parting(one, two)
                parted += last_visits(one) != last_visits(two)
        self.assertGreater(parted, 1000)

    def test_drawn_pairs_that_are_much_alike(self):
        drawn = random.Random(14)
        for many in (2, 3, 7, 40):
            for _ in range(200):
                one = drawn.choices(range(many), k=drawn.randrange(1, 100))
                two = list(one)
                two.insert(drawn.randrange(len(two) + 1), drawn.randrange(many))
                self.check_parting(one, two)
                self.check_parting(two, one)

    def test_all_pages_but_one(self):
        self.check_parting(list(range(39)), list(range(40)) + list(range(39)))
        self.check_parting(list(range(40)) + list(range(39)), list(range(39)))
        for page in range(40):
            others = [other for other in range(40) if other != page]
            self.check_parting(others, [*others, page, *others])
            self.check_parting([page, *others], others)

    def test_none(self):
        self.check_call(None, parting_trail, one=V, two=[0, 2, 3, 0, 1])
        self.check_call(None, parting_trail, one=[], two=[])

    def test_errors(self):
        self.check_wrong(parting_trail, {"one": V, "two": V},
                         [("one", InvalidVisitsError, NO_VISITS), ("two", InvalidVisitsError, NO_VISITS)])


class CountEffectsTest(CallTest):
    def test_document(self):
        self.check_call(27, count_effects, many=3)

    def test_all_counts(self):
        for many in range(1, 41):
            self.check_call(many ** many, count_effects, many=many)

    def test_by_trying(self):
        for many in range(1, 6):
            self.assertEqual(count_effects(many), many * len(all_exits(many)))

    def test_errors(self):
        self.check_wrong(count_effects, {"many": 3}, [("many", InvalidNumberError, NO_MANY)])


class NthEffectTest(CallTest):
    def test_document(self):
        self.check_same([(0, 1), (1, 1)], nth_effect(2, 1).exits)
        self.check_call(Effect(0, [(0, 1), (1, 1)]), nth_effect, many=2, index=1)

    def test_all_small(self):
        for many in range(1, 5):
            told = [(first, exits) for first in range(many) for exits in all_exits(many)]
            self.assertEqual(sorted(told), told)
            self.assertEqual([parts(nth_effect(many, index)) for index in range(many ** many)], told)

    def test_five_pages(self):
        exits = all_exits(5)
        for index in range(0, 5 ** 5, 7):
            self.assertEqual(parts(nth_effect(5, index)), (index // 625, exits[index % 625]))

    def test_first_and_last(self):
        for many in (1, 2, 12, 39, 40):
            self.assertEqual(parts(nth_effect(many, 0)), (0, [(page, 0) for page in range(many)]))
            self.assertEqual(parts(nth_effect(many, many ** many - 1)),
                             (many - 1, [(page, many - 1) for page in range(many)]))

    def test_errors(self):
        self.check_wrong(nth_effect, {"many": 3, "index": 0},
                         [("many", InvalidNumberError, NO_MANY),
                          ("index", InvalidNumberError, [*NO_NUMBERS, 27, 28, "0", [0]])])
        for many in (1, 2, 4, 40):
            self.check_error(InvalidNumberError, nth_effect, many, many ** many)


class EffectRankTest(CallTest):
    def test_document(self):
        self.check_call(22, effect_rank, effect=effect_of(V))

    def test_all_small(self):
        for many in range(1, 5):
            told = [(first, exits) for first in range(many) for exits in all_exits(many)]
            for index, (first, exits) in enumerate(told):
                self.check_same(index, effect_rank(Effect(first, exits)))

    def test_first_and_last(self):
        for many in (1, 2, 12, 39, 40):
            self.check_call(0, effect_rank, effect=Effect(0, [(page, 0) for page in range(many)]))
            last = Effect(many - 1, [(page, many - 1) for page in range(many)])
            self.check_call(many ** many - 1, effect_rank, effect=last)

    def test_there_and_back(self):
        drawn = random.Random(5)
        for many in (6, 13, 27, 40):
            for _ in range(5):
                index = drawn.randrange(many ** many)
                self.assertEqual(effect_rank(nth_effect(many, index)), index)
        self.assertEqual(nth_effect(40, effect_rank(Effect(3, CHAIN))), Effect(3, CHAIN))

    def test_many_drawn_indices(self):
        drawn = random.Random(6)
        for many in (1, 2, 3, 4, 7, 40):
            count = many ** many
            for index in [0, count - 1, *[drawn.randrange(count) for _ in range(300)]]:
                effect = nth_effect(many, index)
                self.assertEqual(len(effect), many)
                self.check_same(index, effect_rank(effect))

    def test_many_drawn_effects(self):
        drawn = random.Random(16)
        for many in (1, 2, 3, 4, 7, 40):
            for _ in range(100):
                visits = [*drawn.choices(range(many), k=drawn.randrange(80)), *drawn.sample(range(many), many),
                          *drawn.choices(range(many), k=drawn.randrange(80))]
                index = effect_rank(effect_of(visits))
                self.assertEqual(parts(nth_effect(many, index)), last_visits(visits))

    def test_order_of_drawn_effects(self):
        drawn = random.Random(17)
        for many in (3, 4, 7, 40):
            for _ in range(50):
                one, two = drawn.randrange(many ** many), drawn.randrange(many ** many)
                former, latter = parts(nth_effect(many, one)), parts(nth_effect(many, two))
                self.assertEqual([one < two, one == two], [former < latter, former == latter])

    def test_order_of_neighbours(self):
        for index in (0, 10 ** 10, 40 ** 39 - 1, 40 ** 40 - 2):
            self.assertLess(parts(nth_effect(40, index)), parts(nth_effect(40, index + 1)))

    def test_errors(self):
        others = [effect_of([]), effect_of([1]), effect_of([39]), effect_of([0, 2]), effect_of([1, 2, 3]),
                  effect_of([0, 1, 3]), Effect(39, CHAIN[1:])]
        values = [*STRANGE, *NO_NUMBERS, (0, [(0, 0)]), [(0, 0)], Effect, MuchLikeIt(), V]
        self.check_wrong(effect_rank, {"effect": effect_of(V)},
                         [("effect", InvalidEffectError, [*values, *others])])


if __name__ == "__main__":
    unittest.main()
