"""What the tests share: checks of errors, arguments and results."""

import copy
import itertools
import random
import types
import unittest

from breadcrumbs.errors import BreadcrumbsError
from breadcrumbs.exits import Effect

# Values that are nothing that a parameter of the package takes.
STRANGE = [None, True, False, 1.0, "", "0", b"0", (), {}, {0: 1}, {0}, object(), [None], [[None]], [True], [False],
           [1.0], ["0"], [(0,)], [-1], [40], [10 ** 30], [-10 ** 30]]

# Values that are no integers, or far outside all limits.
NO_NUMBERS = [None, True, False, 1.0, 0.0, "1", "", b"1", [], [1], (), (1,), {}, {1}, object(),
              -1, 10 ** 30, -10 ** 30, 10 ** 499, -10 ** 499]

V = [0, 1, 2, 0, 2, 3, 0, 1]

NO_PAGE_LISTS = [*STRANGE, (0, 1), (0,), 0, 39, "01", {0: 1, 1: 2}, [0, True], [False, 1], [0, 1.0], [0, "1"],
                 [0, None], [[0]], [0, [1]], [0, (1,)], [0, -1], [0, 40], [39, 40], [39, -1]]
NO_VISITS = [*NO_PAGE_LISTS, [0] * 301, [page % 40 for page in range(301)], [0] * 400, [0] * 300 + [True]]
NO_TRAILS = [*NO_PAGE_LISTS, [0, 0], [0, 1, 0], [39, 39], [*range(40), 0], [*range(41)], list(range(40)) * 2]
NO_STARTS = [value for value in NO_TRAILS if value is not None]

LONG = [(page * page) % 40 for page in range(300)]

S = [[1, 2], [0, 2], [0, 3], [0]]
FULL = [[after for after in range(12) if after != page] for page in range(12)]
RING = [[(page + 1) % 12] for page in range(12)]
SITES = [[[]], [[], []], [[1], []], [[], [0]], [[1], [0]], S, FULL, RING, [[] for _ in range(12)]]

# Each is wrong in one way only.
NO_SITES = [*STRANGE, [], [[] for _ in range(13)], ([], []), ((1,), (0,)), [(1,), [0]], [[1], (0,)], [[1], ()],
            [[0]], [[1]], [[-1], []], [[2], []], [[True], [0]], [[1], [False]], [[1.0], []], [["1"], []],
            [[1, 1], []], [[2, 1], [], []], [[1, 2, 1], [], []], [[1, 1, 2], [], []], [[0, 1], []], [[1], [0, 1]],
            [[1], None], [None], [[1], {0: 0}], [[1], {0}], {0: [1], 1: [0]}, "ab", [[[1]], []], [[None], []],
            [[after for after in range(13) if after != page] for page in range(13)], [[], 0], [[], [[]]]]

NO_PAGES_OF_S = [*STRANGE, (0,), (0, 1), [0, 0], [0, 1, 0], [4], [0, 4], [-1, 0], [0, True], [False, 1], [0, None],
                 [0, "1"], [0, 1.0], [[0]], {0: 1}, 0, 3]

NO_PAGE_OF_S = [*NO_NUMBERS, 4, 12, 40, "0", [0]]

NO_TRAILS_OF_S = [*NO_PAGES_OF_S, [], [0, 3], [1, 3], [3, 2, 1], [0, 1, 2, 3, 0], [0, 1, 0], [0, 1, 1], [2, 3, 1]]
NO_WALKS_OF_S = [*[value for value in NO_PAGES_OF_S if value != [0, 1, 0]], [], [0, 3], [1, 3], [0, 1, 2, 3, 1],
                 [0, 1, 1], [3, 3], [0, 1] * 31, [0, 1] * 40]

# Values for `steps` and `most`, which are integers from 0 to 60.
NO_STEPS = [*NO_NUMBERS, 61, 62, "5", [5]]
# Values for `many`, which is an integer from 1 to 40, and for `times`, which is one from 0 to 200.
NO_MANY = [*NO_NUMBERS, 0, 41, "3", [3]]
NO_TIMES = [*NO_NUMBERS, 201, 202, "3", [3]]

NO_STRINGS = [None, True, False, 0, 1, -1, 0.5, b"", b"0", b"0:", [], ["0"], [0], (), ("0",), {}, {"0": 0}, {"0"},
              object(), str, Effect]

NOT_EFFECTS = [*STRANGE, *NO_NUMBERS, (0, [(0, 0)]), [(0, 0)], [0, [(0, 0)]], "0; 0>0", Effect, V]

TWO_WAYS = [[1, 4], [0, 2, 4], [1, 3], [2, 4], [0, 1, 3]]
# No walk from page 0 reaches page 3, and none from page 2 or page 4 goes on.
ONE_WAY = [[1, 2], [0, 2, 4], [], [0, 4], []]
TWO_SIDES = [[after for after in range(12) if (page < 6) != (after < 6)] for page in range(12)]


def simulated(visits, start=()):
    """The trail after visits, page by page, as the definition tells it."""
    trail = list(start)
    for page in visits:
        if page in trail:
            while trail[-1] != page:
                trail.pop()
        else:
            trail.append(page)
    return trail


def last_visits(visits):
    """The first page and the exits of visits, as the definition tells them."""
    exits = []
    for page in range(40):
        places = [index for index, visited in enumerate(visits) if visited == page]
        if places:
            behind = visits[places[-1] + 1:]
            exits.append((page, behind[0] if behind else page))
    return (visits[0] if visits else None, exits)


def small_visits():
    return [list(visits) for size in range(6) for visits in itertools.product(range(3), repeat=size)]


def some_visits():
    """Ordinary visits of many sizes, always the same ones."""
    drawn = random.Random(7)
    return [[drawn.randrange(many) for _ in range(size)] for many in (2, 5, 12, 40) for size in (1, 7, 40, 299, 300)]


def small_sites(many):
    """All sites with so many pages."""
    links = [[list(chosen) for size in range(many)
              for chosen in itertools.combinations([after for after in range(many) if after != page], size)]
             for page in range(many)]
    return [[list(row) for row in site] for site in itertools.product(*links)]


def links_of(site):
    return {(page, after) for page, links in enumerate(site) for after in links}


def site_of(links, many):
    return [sorted(after for page, after in links if page == source) for source in range(many)]


def drawn_sites(many, count):
    """Sites with so many pages and from few to many links, always the same ones."""
    drawn = random.Random(many)
    return [[[after for after in range(many) if after != page and drawn.random() < share] for page in range(many)]
            for share in (0.2, 0.5, 0.8) for _ in range(count)]


def all_walks(site, page, steps):
    """All walks from a page with so many steps, in list order, by taking all steps."""
    walks = [[page]]
    for _ in range(steps):
        walks = [[*walk, after] for walk in walks for after in site[walk[-1]]]
    return walks


def all_trails_of(site, page):
    """All trails of the site that begin with a page, in list order, by trying all orders of pages."""
    others = [other for other in range(len(site)) if other != page]
    found = [[page, *order] for size in range(len(site)) for order in itertools.permutations(others, size)]
    links = links_of(site)
    return sorted(trail for trail in found if set(zip(trail, trail[1:])) <= links)


class CallTest(unittest.TestCase):
    """Calls functions, and takes what generators yield as lists."""

    def call(self, function, *args, **named):
        result = function(*args, **named)
        return list(result) if isinstance(result, types.GeneratorType) else result

    def check_error(self, error, function, *args, **named):
        with self.subTest(function=function.__name__, args=repr(args)[:200], named=repr(named)[:200]):
            with self.assertRaises(BreadcrumbsError) as caught:
                self.call(function, *args, **named)
            self.assertIs(type(caught.exception), error)

    def check_call(self, expected, function, **named):
        """Check the result by name, by position and once more, and that no argument is changed."""
        before = copy.deepcopy(named)
        with self.subTest(function=function.__name__, named=repr(named)[:200]):
            result = self.call(function, **named)
            self.check_same(expected, result)
            self.assertEqual(named, before)
            # A change of the result must not reach the arguments or a later call.
            spoil(result)
            self.assertEqual(named, before)
            self.check_same(expected, self.call(function, **named))
            positional = [value for name, value in named.items() if name != "start"]
            behind_star = {name: value for name, value in named.items() if name == "start"}
            self.check_same(expected, self.call(function, *positional, **behind_star))

    def check_wrong(self, function, good, wrong):
        """Check the errors of wrong arguments, and that the first wrong argument decides.

        wrong has a tuple (name, error, values) for each parameter, in their order.
        """
        for at, (name, error, values) in enumerate(wrong):
            for value in values:
                self.check_error(error, function, **{**good, name: value})
                for later, _, others in wrong[at + 1:]:
                    for other in (others[0], others[-1]):
                        self.check_error(error, function, **{**good, name: value, later: other})

    def check_same(self, expected, result):
        self.assertEqual(expected, result)
        self.assertEqual(kinds(expected), kinds(result))


def kinds(value):
    """The kind of a value, and those of the values in it."""
    if isinstance(value, (list, tuple)):
        return (type(value), [kinds(item) for item in value])
    return type(value)


def spoil(value):
    """Change a list and the lists in it."""
    if isinstance(value, (list, tuple)):
        for item in value:
            spoil(item)
    if isinstance(value, list):
        value.append("spoiled")
        value.insert(0, "spoiled")
