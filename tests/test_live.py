"""Live trails: [23], [24] and [25]."""

import inspect
import itertools
import random
import unittest

from breadcrumbs.errors import EmptyHistoryError, InvalidFormatError, InvalidNumberError, InvalidPageError
from breadcrumbs.exits import Effect, effect_of
from breadcrumbs.live import CountingTrail, ShortCountingTrail, ShortTrail, Trail
from breadcrumbs.trails import is_visits
from tests.helper import LONG, NO_NUMBERS, NO_STRINGS, CallTest, V, last_visits, simulated, some_visits, spoil

CLASSES = [Trail, ShortTrail, CountingTrail, ShortCountingTrail]
SHORT = [ShortTrail, ShortCountingTrail]
COUNTING = [CountingTrail, ShortCountingTrail]

NO_PAGES = [*NO_NUMBERS, 40, 41, "0", [0], (0,), [True], Trail, Effect]
NO_COUNTS = [*NO_NUMBERS, 0, 40, 41, "1", [1]]
NO_MOST = [*NO_NUMBERS, 0, 41, 42, 60, "5", [5], ShortTrail]
NO_TRAIL_TEXTS = [*NO_STRINGS, " ", "x", "00", "-1", "40", "0 > 40", "0>1", "0 >  1", "0 > 1 ", " 0 > 1", "0 > 0",
                  "0 > 1 > 0", "0 > 1\n", "0; 0>0", "0: 1; 1:", "0" * 3000, "0 > " * 1000, "1" * 4000, [0, 1]]


def new_ones():
    """Live trails of all classes, with those values of most that are edges."""
    return [Trail(), CountingTrail(), ShortTrail(), ShortCountingTrail(),
            *[kind(most) for kind in SHORT for most in (1, 2, 3, 40)]]


class Replay:
    """A live trail for which all calls are made again whenever it is looked at."""

    def __init__(self, most=40):
        self.most = most
        self.calls = []

    def visits(self):
        return [page for call in self.calls for page in call]

    def trail(self, more=()):
        trail = []
        for page in [*self.visits(), *more]:
            if page in trail:
                while trail[-1] != page:
                    trail.pop()
            else:
                trail.append(page)
            if len(trail) > self.most:
                trail.pop(0)
        return trail

    def news(self, pages):
        return [page not in self.trail(pages[:at]) for at, page in enumerate(pages)]

    def back(self, count):
        page = self.trail()[len(self.trail()) - 1 - count]
        self.calls.append([page])
        return page


def replay_of(live, *calls):
    """The replay of a live trail of the same kind, with these calls."""
    replay = Replay(live.most if isinstance(live, ShortTrail) else 40)
    replay.calls.extend(calls)
    return replay


class LiveTest(CallTest):
    def check_live(self, live, replay):
        """Check all that a live trail tells."""
        trail, visits = replay.trail(), replay.visits()
        self.check_same(trail, live.trail)
        self.check_same(visits, live.visits)
        self.check_same(last_visits(visits), (live.effect.first, live.effect.exits))
        self.check_same(len(trail), len(live))
        self.assertEqual([page for page in range(-2, 43) if page in live], sorted(trail))
        told = [f"pages {len(trail)}"]
        if isinstance(live, CountingTrail):
            counts = [(page, visits.count(page)) for page in sorted(set(visits))]
            self.check_same(counts, live.counts)
            told.append(f"visits {len(visits)}")
        if isinstance(live, ShortTrail):
            self.check_same(replay.most, live.most)
            told.append(f"most {replay.most}")
        self.check_same(told, live.report())

    def check_undone(self, live, replay):
        """Check the live trail, and that exactly the calls of the replay can be undone, one after another."""
        self.check_live(live, replay)
        other = live.twin()
        calls = list(replay.calls)
        while replay.calls:
            replay.calls.pop()
            self.check_same(None, other.undo())
            self.check_live(other, replay)
        for _ in range(2):
            self.check_error(EmptyHistoryError, other.undo)
            self.check_live(other, replay)
        replay.calls = calls

    def check_nothing_changed(self, live, error, method, *args, **named):
        """Check that the call raises the error and changes nothing."""
        before = (live.trail, live.visits, live.effect, live.report(), live.twin())
        self.check_error(error, method, *args, **named)
        self.assertEqual((live.trail, live.visits, live.effect, live.report(), live), before)


class DocumentTest(LiveTest):
    def test_live(self):
        live = Trail()
        self.check_same([True, True, True, False], live.visit(0, 1, 2, 0))
        self.check_same([True, True], live.visit(2, 3))
        self.check_same([0, 2, 3], live.trail)
        self.check_same(2, live.back())
        self.check_same([0, 2], live.trail)
        self.assertIs(3 in live, False)
        self.check_same([0, 1, 2, 0, 2, 3, 2], live.visits)

    def test_short(self):
        short = ShortCountingTrail(most=2)
        self.check_same([True, True, True, True], short.visit(4, 5, 6, 4))
        self.check_same([6, 4], short.trail)
        self.check_same([(4, 2), (5, 1), (6, 1)], short.counts)
        self.check_same(["pages 2", "visits 4", "most 2"], short.report())
        self.check_same(2, len(short))


class ReplayTest(LiveTest):
    """Compares with a replay of all calls."""

    def make_call(self, drawn, live, replay, many):
        pages = [drawn.randrange(many) for _ in range(drawn.choice([0, 1, 1, 2, 3, 7, 20]))]
        word = drawn.choice(["visit", "visit", "back", "undo", "tried", "wrong", "twin"])
        if word == "visit":
            self.check_same(replay.news(pages), live.visit(*pages))
            replay.calls.append(pages)
        elif word == "back" and len(replay.trail()) > 1:
            count = drawn.randrange(1, len(replay.trail()))
            self.check_same(replay.back(count), live.back(count))
        elif word == "undo" and replay.calls:
            replay.calls.pop()
            self.check_same(None, live.undo())
        elif word == "tried":
            self.check_same(replay.trail(pages), live.tried(*pages))
        elif word == "wrong":
            self.check_error(InvalidPageError, live.visit, *pages, 40)
            self.check_error(InvalidPageError, live.tried, *pages, True)
            self.check_error(InvalidNumberError, live.back, max(len(replay.trail()), 1))
        elif word == "twin":
            other = live.twin()
            other.visit(*pages)
            other.undo()
            self.assertEqual(other, live)
            other.visit(*pages, 0)
        return live

    def test_drawn_calls(self):
        drawn = random.Random(23)
        for many in (2, 4, 9, 40):
            for live in new_ones():
                replay = replay_of(live)
                for _ in range(30):
                    self.make_call(drawn, live, replay, many)
                    self.check_live(live, replay)
                self.check_undone(live, replay)

    def test_go_on_with_a_twin(self):
        drawn = random.Random(24)
        for live in new_ones():
            replay = replay_of(live)
            for _ in range(40):
                live = self.make_call(drawn, live.twin(), replay, 5)
            self.check_undone(live, replay)

    def test_all_small_visits(self):
        for live in new_ones():
            for size in range(5):
                for pages in itertools.product(range(3), repeat=size):
                    one, replay = live.twin(), replay_of(live)
                    self.check_same(replay.trail(pages), one.tried(*pages))
                    self.check_same(replay.news(list(pages)), one.visit(*pages))
                    replay.calls.append(list(pages))
                    self.check_live(one, replay)

    def test_one_call_is_as_good_as_many(self):
        for live in new_ones():
            for visits in some_visits():
                one, two = live.twin(), live.twin()
                for page in visits:
                    one.visit(page)
                for at in range(0, len(visits), 20):
                    two.visit(*visits[at:at + 20])
                self.assertEqual(one, two)
                if not isinstance(live, ShortTrail):
                    self.assertEqual(one.trail, simulated(visits))
                self.assertEqual(one.visits, visits)
                self.assertEqual(one.effect, effect_of(visits))

    def test_300_calls_of_20_pages(self):
        drawn = random.Random(25)
        for live in new_ones():
            replay = replay_of(live)
            for _ in range(300):
                pages = [drawn.randrange(40) for _ in range(20)]
                live.visit(*pages)
                replay.calls.append(pages)
            self.check_live(live, replay)
            self.assertEqual(len(live.visits), 6000)
            self.assertIs(is_visits(live.visits), False)

    def test_150_calls_and_150_times_undo(self):
        drawn = random.Random(26)
        for live in new_ones():
            replay, pages = replay_of(live), [drawn.randrange(40) for _ in range(20)]
            for _ in range(150):
                live.visit(*pages)
            for _ in range(150):
                live.undo()
            self.check_live(live, replay)
            self.check_error(EmptyHistoryError, live.undo)


class IsPageTest(LiveTest):
    def test_pages(self):
        for kind in CLASSES:
            for page in range(40):
                self.check_call(True, kind.is_page, value=page)
            self.assertIs(kind().is_page(39), True)
            self.assertIs(kind().is_page(value=40), False)

    def test_others(self):
        for kind in CLASSES:
            for value in NO_PAGES:
                with self.subTest(value=value):
                    self.assertIs(kind.is_page(value), False)

    def test_most(self):
        for live in new_ones():
            self.check_same(40, live.MOST)
        for kind in CLASSES:
            self.check_same(40, kind.MOST)


class VisitTest(LiveTest):
    def test_edges(self):
        for live in new_ones():
            replay = replay_of(live)
            for pages in ([], [0], [0], [39, 0, 39], [], list(range(20)), list(range(20, 40)), list(range(19, -1, -1))):
                self.check_same(replay.news(pages), live.visit(*pages))
                replay.calls.append(pages)
                self.check_live(live, replay)
            self.check_undone(live, replay)

    def test_full_trail(self):
        live = Trail()
        live.visit(*range(20))
        self.assertEqual(live.visit(*range(20, 40)), [True] * 20)
        self.assertEqual((live.trail, len(live)), (list(range(40)), 40))
        self.assertEqual(live.visit(*range(39, 19, -1)), [False] * 20)
        self.assertEqual((live.trail, len(live)), (list(range(21)), 21))

    def test_a_page_is_new_once_it_was_removed(self):
        live = Trail()
        self.assertEqual(live.visit(0, 1, 0, 1, 1), [True, True, False, True, False])

    def test_errors(self):
        for live in new_ones():
            live.visit(0, 1)
            for value in NO_PAGES:
                for pages in ([value], [value, 2], [2, value], [2, value, 3], [2, 3, 1, 0, value], [value, value]):
                    self.check_nothing_changed(live, InvalidPageError, live.visit, *pages)
            self.check_undone(live, replay_of(live, [0, 1]))


class BackTest(LiveTest):
    def test_default(self):
        live = Trail()
        live.visit(3, 4, 5)
        self.check_same(4, live.back())
        self.check_same([3, 4], live.trail)
        self.check_same([3, 4, 5, 4], live.visits)
        self.check_same(3, live.back())
        self.check_error(InvalidNumberError, live.back)
        self.check_same([3], live.trail)

    def test_counts(self):
        for count in range(1, 6):
            for back in (lambda live: live.back(count), lambda live: live.back(count=count)):
                live = Trail()
                live.visit(0, 1, 2, 3, 4, 5)
                self.check_same(5 - count, back(live))
                self.check_same(list(range(6 - count)), live.trail)
                live.undo()
                self.check_same(list(range(6)), live.trail)

    def test_full_trail(self):
        live = Trail()
        live.visit(*range(20))
        live.visit(*range(20, 40))
        self.check_nothing_changed(live, InvalidNumberError, live.back, 40)
        self.check_same(0, live.back(39))
        self.check_same([0], live.trail)

    def test_short(self):
        short = ShortTrail(3)
        short.visit(0, 1, 2, 3, 4)
        self.check_nothing_changed(short, InvalidNumberError, short.back, 3)
        self.check_same(2, short.back(2))
        self.check_same([2], short.trail)
        self.check_same([0, 1, 2, 3, 4, 2], short.visits)
        single = ShortTrail(1)
        single.visit(0, 1)
        self.check_error(InvalidNumberError, single.back)

    def test_errors(self):
        for live in new_ones():
            for pages in ([], [7], [], [8, 9], [4, 9, 8]):
                live.visit(*pages)
                for value in [*NO_COUNTS, len(live), len(live) + 1, -len(live), max(len(live), 2) + 0.0]:
                    self.check_nothing_changed(live, InvalidNumberError, live.back, value)
                    self.check_nothing_changed(live, InvalidNumberError, live.back, count=value)
                if len(live) < 2:
                    self.check_nothing_changed(live, InvalidNumberError, live.back)


class UndoTest(LiveTest):
    def test_nothing_to_undo(self):
        for live in new_ones():
            for _ in range(2):
                self.check_nothing_changed(live, EmptyHistoryError, live.undo)

    def test_a_visit_of_no_pages_counts(self):
        for live in new_ones():
            live.visit(1)
            live.visit()
            live.visit()
            for trail in ([1], [1], []):
                self.check_same(None, live.undo())
                self.check_same(trail, live.trail)
            self.check_error(EmptyHistoryError, live.undo)

    def test_calls_that_raised_an_error_do_not_count(self):
        for live in new_ones():
            live.visit(1)
            self.check_error(InvalidPageError, live.visit, 2, 40)
            self.check_error(InvalidNumberError, live.back, 7)
            self.check_error(InvalidPageError, live.tried, None)
            live.undo()
            self.check_same(([], []), (live.trail, live.visits))
            self.check_error(EmptyHistoryError, live.undo)
            self.check_error(EmptyHistoryError, live.undo)
            live.visit(2)
            live.undo()
            self.check_error(EmptyHistoryError, live.undo)

    def test_tried_and_twin_do_not_count(self):
        for live in new_ones():
            live.visit(1)
            live.tried(2, 3)
            live.twin().visit(4)
            live.undo()
            self.check_same([], live.trail)

    def test_all_pages_of_a_call(self):
        for live in new_ones():
            replay = replay_of(live)
            for pages in ([0, 1, 2], [3, 1, 4, 5, 6], [0, 0, 0], [7, 8, 9, 10, 11, 12]):
                live.visit(*pages)
                replay.calls.append(pages)
            self.check_undone(live, replay)

    def test_undo_of_back(self):
        live = CountingTrail()
        live.visit(0, 1, 2)
        live.back(2)
        live.undo()
        self.check_same(([0, 1, 2], [0, 1, 2]), (live.trail, live.visits))
        self.check_same([(0, 1), (1, 1), (2, 1)], live.counts)

    def test_first_page_comes_back(self):
        short = ShortTrail(2)
        short.visit(0, 1)
        short.visit(2, 3, 4)
        self.check_same([3, 4], short.trail)
        short.undo()
        self.check_same([0, 1], short.trail)

    def test_undo_and_go_on(self):
        live = Trail()
        live.visit(0)
        live.visit(1)
        live.undo()
        live.visit(2)
        self.check_same(([0, 2], [0, 2]), (live.trail, live.visits))
        live.undo()
        live.undo()
        self.check_error(EmptyHistoryError, live.undo)


class TriedTest(LiveTest):
    def test_edges(self):
        live = Trail()
        self.check_same([], live.tried())
        self.check_same([39], live.tried(39))
        self.check_same([0, 1], live.tried(0, 1, 2, 1))
        live.visit(0, 1, 2)
        self.check_same([0, 1, 2], live.tried())
        self.check_same([0], live.tried(5, 0))
        self.check_same([0, 1, 2, 5], live.tried(5))
        self.check_same([0, 1, 2], live.trail)

    def test_short(self):
        short = ShortCountingTrail(2)
        short.visit(0, 1, 2)
        self.check_same([3, 4], short.tried(3, 4))
        self.check_same([1, 2], short.tried())
        self.check_same([0, 1], short.tried(0, 1))
        self.check_same([1, 2], short.trail)

    def test_nothing_changes(self):
        for live in new_ones():
            live.visit(0, 1, 2)
            before = live.twin()
            spoil(live.tried())
            spoil(live.tried(0))
            spoil(live.tried(5, 6, 7))
            self.assertEqual(live, before)
            self.check_undone(live, replay_of(live, [0, 1, 2]))

    def test_errors(self):
        for live in new_ones():
            live.visit(0, 1)
            for value in NO_PAGES:
                for pages in ([value], [value, 2], [2, value], [2, 3, 1, 0, value]):
                    self.check_nothing_changed(live, InvalidPageError, live.tried, *pages)


class TwinTest(LiveTest):
    def test_same_class(self):
        for live in new_ones():
            live.visit(3, 4)
            twin = live.twin()
            self.assertIs(type(twin), type(live))
            self.assertIsNot(twin, live)
            self.assertTrue(twin == live)
            if isinstance(live, ShortTrail):
                self.assertEqual(twin.most, live.most)

    def test_independent(self):
        for live in new_ones():
            replay = replay_of(live, [0, 1, 2])
            live.visit(0, 1, 2)
            twin = live.twin()
            twin.visit(3)
            twin.visit()
            self.check_undone(live, replay)
            for _ in range(3):
                twin.undo()
            self.check_error(EmptyHistoryError, twin.undo)
            self.check_undone(live, replay)
            other = live.twin()
            live.visit(5, 6)
            live.undo()
            live.undo()
            self.check_undone(other, replay)
            self.check_live(live, replay_of(live))

    def test_of_a_new_one(self):
        for live in new_ones():
            twin = live.twin()
            self.check_error(EmptyHistoryError, twin.undo)
            twin.visit(0)
            self.check_live(live, replay_of(live))

    def test_goes_on_as_the_kind_does(self):
        for kind in SHORT:
            twin = kind(2).twin()
            twin.visit(0, 1, 2)
            self.check_same([1, 2], twin.trail)
            self.check_same(2, twin.twin().most)


class PropertiesTest(LiveTest):
    def test_new_one(self):
        for live in new_ones():
            self.check_live(live, replay_of(live))
            self.assertEqual(live.effect, Effect(None, []))

    def test_lists_may_be_changed(self):
        for live in new_ones():
            live.visit(0, 1, 2)
            replay = replay_of(live, [0, 1, 2])
            for value in (live.trail, live.visits, live.report(), live.effect.exits, live.visit(), live.tried()):
                spoil(value)
            replay.calls.append([])
            if isinstance(live, CountingTrail):
                spoil(live.counts)
            self.check_undone(live, replay)

    def test_what_was_told_does_not_change(self):
        for live in new_ones():
            told = []
            for pages in ([0, 1, 2], [3], [0, 5], [], [6, 7, 8, 9, 10, 11]):
                told.append((live.visit(*pages), live.trail, live.visits, live.effect, live.report(), live.tried(1)))
                if isinstance(live, CountingTrail):
                    told.append(live.counts)
            before = repr([parts_of(value) for value in told])
            live.undo()
            live.visit(20, 21)
            if len(live) > 1:
                live.back()
                live.undo()
            for _ in range(5):
                live.undo()
            live.visit(30)
            self.assertEqual(repr([parts_of(value) for value in told]), before)

    def test_more_than_300_visits(self):
        for live in new_ones():
            visits = [(page * 7 + page // 40) % 40 for page in range(340)]
            for at in range(0, 300, 20):
                live.visit(*visits[at:at + 20])
            self.assertIs(is_visits(live.visits), True)
            self.assertEqual(live.effect, effect_of(live.visits))
            for at in range(300, 340, 20):
                live.visit(*visits[at:at + 20])
            self.check_same(visits, live.visits)
            self.assertIs(is_visits(live.visits), False)
            self.assertEqual((live.effect.first, live.effect.exits), last_visits(visits))
            live.undo()
            live.undo()
            self.assertEqual(live.effect, effect_of(visits[:300]))

    def test_effect_of_a_short_trail_is_that_of_the_visits(self):
        for kind in SHORT:
            short = kind(2)
            short.visit(*V)
            self.assertEqual(short.effect, effect_of(V))
            self.assertEqual(short.trail, [0, 1])
            short.visit(2, 3)
            self.assertEqual(short.effect([]), [0, 1, 2, 3])
            self.assertEqual(short.trail, [2, 3])

    def test_cannot_be_set(self):
        for live in new_ones():
            for name in ("trail", "visits", "effect", "most", "counts"):
                if hasattr(live, name):
                    with self.assertRaises(AttributeError):
                        setattr(live, name, [])

    def test_only_where_they_belong(self):
        self.assertEqual([hasattr(kind(), "most") for kind in CLASSES], [False, True, False, True])
        self.assertEqual([hasattr(kind(), "counts") for kind in CLASSES], [False, False, True, True])

    def test_in(self):
        for live in new_ones():
            live.visit(0)
            live.visit(1)
            for value in (True, False, None, 1.0, 0.0, "0", "", b"0", [], [0], [1], (0, 1), {}, {0}, object(), Trail,
                          live, 10 ** 30, -1, 40, 2):
                self.assertIs(value in live, False)
            self.assertIs(1 in live, True)
            self.assertIs(0 in live, len(live) == 2)

    def test_a_removed_page_is_not_in_the_trail(self):
        live = Trail()
        live.visit(0, 1, 0)
        self.assertIs(1 in live, False)
        short = ShortTrail(1)
        short.visit(0, 1)
        self.assertIs(0 in short, False)


def parts_of(value):
    """The value, with what can be seen of the effects in it."""
    if isinstance(value, (list, tuple)):
        return [parts_of(item) for item in value]
    return (value.first, value.exits) if isinstance(value, Effect) else value


class Anything:
    """Is equal to all values, as far as it is asked."""

    def __eq__(self, other):
        return True


class EqualTest(LiveTest):
    def test_classes_and_most(self):
        for pages in ([], [0], [0, 1, 0]):
            ones, twos = new_ones(), new_ones()
            for live in [*ones, *twos]:
                live.visit(*pages)
            for at, one in enumerate(ones):
                for beside, two in enumerate(twos):
                    self.assertIs(one == two, at == beside)
                    self.assertIs(one != two, at != beside)
                    self.assertIs(two == one, at == beside)

    def test_five_is_the_default(self):
        for kind in SHORT:
            self.assertTrue(kind() == kind(5))
            self.assertFalse(kind() == kind(4))
            self.assertFalse(kind() == kind(most=6))

    def test_visits(self):
        for live in new_ones():
            lists = [[], [0], [1], [0, 0], [0, 1], [1, 0], [0, 1, 0], [0, 2, 0], [0, 1, 1], [0, 1, 0, 1]]
            ones, twos = [live.twin() for _ in lists], [live.twin() for _ in lists]
            for one, two, pages in zip(ones, twos, lists):
                one.visit(*pages)
                for page in pages:
                    two.visit(page)
            for at, one in enumerate(ones):
                for beside, two in enumerate(twos):
                    self.assertIs(one == two, at == beside)

    def test_the_calls_to_undo_do_not_matter(self):
        for live in new_ones():
            one, two = live.twin(), live.twin()
            one.visit(0, 1)
            two.visit()
            two.visit(0)
            two.visit(2)
            two.undo()
            two.visit(1)
            self.assertTrue(one == two)
            one.undo()
            two.undo()
            self.assertFalse(one == two)

    def test_other_values(self):
        for live in new_ones():
            for pages in ([], [0]):
                live.visit(*pages)
                for value in (None, 0, True, False, [], [0], (), "", {}, live.trail, live.visits, live.effect, Trail,
                              type(live), object(), Anything(), live.report(), Replay(),
                              type(type(live).__name__, (), {})()):
                    self.assertIs(live == value, False)
                    self.assertIs(live != value, True)

    def test_other_classes(self):
        for kind in CLASSES:
            other = type("Other", (kind,), {})
            for one, two in ((kind(), other()), (kind.read("0 > 1"), other.read("0 > 1"))):
                self.assertIs(one == two, False)
                self.assertIs(two == one, False)
                self.assertIs(two == two.twin(), True)
                self.assertIs(type(two.twin()), other)


class ReportTest(LiveTest):
    def test_strings(self):
        live, counting = Trail(), CountingTrail()
        short, both = ShortTrail(3), ShortCountingTrail(3)
        for one in (live, counting, short, both):
            one.visit(0, 1, 2, 3, 1)
        self.check_same(["pages 2"], live.report())
        self.check_same(["pages 2", "visits 5"], counting.report())
        self.check_same(["pages 1", "most 3"], short.report())
        self.check_same(["pages 1", "visits 5", "most 3"], both.report())

    def test_new_ones(self):
        self.check_same(["pages 0"], Trail().report())
        self.check_same(["pages 0", "visits 0"], CountingTrail().report())
        self.check_same(["pages 0", "most 5"], ShortTrail().report())
        self.check_same(["pages 0", "visits 0", "most 40"], ShortCountingTrail(40).report())


class ReadTest(LiveTest):
    def test_trails(self):
        texts = [([], ""), ([0], "0"), ([39], "39"), ([7, 0], "7 > 0"), ([10, 1, 0], "10 > 1 > 0"),
                 (list(range(40)), " > ".join(str(page) for page in range(40)))]
        for kind in CLASSES:
            for pages, text in texts:
                for live in (kind.read(text), kind.read(text=text), kind().read(text)):
                    self.assertIs(type(live), kind)
                    self.check_undone(live, replay_of(live, pages))
                    self.check_same(pages[-5:] if kind in SHORT else pages, live.trail)

    def test_visited_by_one_call(self):
        for kind in CLASSES:
            for text in ("", "3", "0 > 1 > 2 > 3 > 4 > 5 > 6"):
                live = kind.read(text)
                live.undo()
                self.check_same(([], []), (live.trail, live.visits))
                self.check_error(EmptyHistoryError, live.undo)

    def test_default_most(self):
        for kind in SHORT:
            self.check_same(5, kind.read("1").most)
            self.check_same(5, kind(2).read("1").most)

    def test_errors(self):
        for kind in CLASSES:
            for value in NO_TRAIL_TEXTS:
                self.check_error(InvalidFormatError, kind.read, value)
                self.check_error(InvalidFormatError, kind.read, text=value)


class ShortTrailTest(LiveTest):
    def test_most(self):
        for kind in SHORT:
            for most in range(1, 41):
                for short in (kind(most), kind(most=most)):
                    self.check_same(most, short.most)
                    short.visit(*range(20))
                    short.visit(*range(20, 40))
                    self.check_same(list(range(40 - most, 40)), short.trail)
                    self.check_same(list(range(40)), short.visits)
            self.check_same(5, kind().most)

    def test_first_page_is_lost_at_once(self):
        short = ShortTrail(2)
        self.check_same([True, True, True, True, False, True], short.visit(0, 1, 2, 0, 2, 1))
        self.check_same([2, 1], short.trail)

    def test_most_1(self):
        short = ShortTrail(1)
        self.check_same([True, False, True, True], short.visit(0, 0, 1, 0))
        self.check_same([0], short.trail)

    def test_errors(self):
        for kind in SHORT:
            self.check_wrong(kind, {"most": 5}, [("most", InvalidNumberError, NO_MOST)])
            for value in NO_MOST:
                self.check_error(InvalidNumberError, kind, value)


class CountsTest(LiveTest):
    def test_counts(self):
        for kind in COUNTING:
            live = kind()
            self.check_same([], live.counts)
            live.visit(39, 0, 39, 10)
            live.visit()
            self.check_same([(0, 1), (10, 1), (39, 2)], live.counts)
            live.back()
            self.check_same([(0, 1), (10, 1), (39, 3)], live.counts)
            live.undo()
            live.undo()
            live.undo()
            self.check_same([], live.counts)

    def test_many_visits(self):
        for kind in COUNTING:
            live = kind()
            for at in range(0, 300, 20):
                live.visit(*LONG[at:at + 20])
                live.visit(*LONG[at:at + 20])
            self.check_same([(page, 2 * LONG.count(page)) for page in range(40) if page in LONG], live.counts)


class ClassesTest(LiveTest):
    def test_bases(self):
        self.assertEqual(ShortTrail.__bases__, (Trail,))
        self.assertEqual(CountingTrail.__bases__, (Trail,))
        self.assertEqual(set(ShortCountingTrail.__bases__), {ShortTrail, CountingTrail})
        self.assertIsInstance(ShortCountingTrail(), ShortTrail)
        self.assertIsInstance(ShortCountingTrail(), CountingTrail)
        self.assertNotIsInstance(ShortTrail(), CountingTrail)
        self.assertNotIsInstance(CountingTrail(), ShortTrail)

    def test_signatures(self):
        told = {"visit": "(self, *pages)", "back": "(self, count=1)", "undo": "(self)", "tried": "(self, *pages)",
                "twin": "(self)", "report": "(self)", "is_page": "(value)", "read": "(text)"}
        for kind in CLASSES:
            for name, signature in told.items():
                self.assertEqual(str(inspect.signature(getattr(kind, name))), signature)
            self.assertEqual(str(inspect.signature(kind)), "(most=5)" if kind in SHORT else "()")

    def test_defined_in_each_class(self):
        names = ["is_page", "read", "visit", "back", "undo", "tried", "twin", "report", "trail", "visits", "effect",
                 "__len__", "__contains__", "__eq__"]
        for kind in CLASSES:
            own = vars(kind)
            more = ["most"] * (kind in SHORT) + ["counts"] * (kind in COUNTING)
            for name in names + more:
                self.assertIn(name, own, kind)
            self.assertIsInstance(own["is_page"], staticmethod)
            self.assertIsInstance(own["read"], classmethod)
            for name in ["trail", "visits", "effect", *more]:
                self.assertIsInstance(own[name], property)
        self.assertIn("MOST", vars(Trail))


if __name__ == "__main__":
    unittest.main()
