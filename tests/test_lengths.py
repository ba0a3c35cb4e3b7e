"""The lengths of visits: [21] and [22]."""

import itertools
import math
import random
import unittest

from breadcrumbs.errors import InvalidLengthsError, InvalidNumberError, InvalidVisitsError
from breadcrumbs.lengths import (count_lengths, count_visits, is_lengths, lengths_of, lengths_rank, nth_lengths,
                                 nth_visits, visits_rank)
from tests.helper import (LONG, NO_MANY, NO_NUMBERS, NO_TIMES, NO_VISITS, STRANGE, CallTest, V, simulated,
                          small_visits, some_visits)

V_LENGTHS = [1, 2, 3, 1, 2, 3, 1, 2]
SAW = [length for _ in range(8) for length in range(1, 41)][:300]
GOOD = [[], [1], [1, 1], [1, 2, 2, 1], V_LENGTHS, [1] * 300, list(range(1, 41)), [*range(1, 41), 40, 1], SAW,
        [1] * 260 + list(range(1, 41))]

# Each is wrong in one way only.
NO_LENGTHS = [*STRANGE, 1, 3, "1", "12", b"12", (1,), (1, 2), {1: 1}, {1}, [0], [2], [3, 1], [0, 1], [1, 0], [1, -1],
              [1, 3], [1, 2, 4], [1, 1, 3], [1, 2, 1, 3], [True, 2], [1, True], [1, False], [1.0], [1, 2.0], ["1"],
              [1, "2"], [1, None], [[1]], [1, [2]], [1, (2,)], [*range(1, 42)], [*range(1, 41), 41], [1] * 301,
              [1] * 400, [1] * 300 + [True], list(range(1, 41)) * 8, [1, 10 ** 30], [1] * 299 + [3]]

SMALL = [(many, times) for many, most in ((1, 5), (2, 7), (3, 6), (4, 5), (5, 4)) for times in range(most + 1)]


def told_lengths(visits):
    return [len(simulated(visits[:end])) for end in range(1, len(visits) + 1)]


def all_visits(many, times):
    return [list(visits) for visits in itertools.product(range(many), repeat=times)]


def visits_by_lengths(many, times):
    """All lists of visits by their lengths, each in list order."""
    found = {}
    for visits in all_visits(many, times):
        found.setdefault(tuple(told_lengths(visits)), []).append(visits)
    return found


def drawn_lengths(drawn, many, times):
    """Any lengths of so many visits of at most so many pages."""
    lengths = []
    for _ in range(times):
        before = lengths[-1] if lengths else 0
        lengths.append(min(many, before + 1) if drawn.random() < 0.7 else drawn.randint(1, max(before, 1)))
    return lengths


class SearchTest(CallTest):
    """Compares with a search over all lists of visits and all lists of small numbers."""

    def test_is_lengths(self):
        for size in range(6):
            found = visits_by_lengths(size or 1, size)
            for value in itertools.product(range(-1, size + 2), repeat=size):
                self.assertIs(is_lengths(list(value)), value in found)

    def test_lengths(self):
        for many, times in SMALL:
            told = sorted(list(lengths) for lengths in visits_by_lengths(many, times))
            self.check_same(len(told), count_lengths(many, times))
            self.check_same(told, [nth_lengths(many, times, index) for index in range(len(told))])
            self.check_same(list(range(len(told))), [lengths_rank(many, lengths) for lengths in told])
            self.check_error(InvalidNumberError, nth_lengths, many, times, len(told))

    def test_visits(self):
        for many, times in SMALL:
            for lengths, told in visits_by_lengths(many, times).items():
                self.check_same(len(told), count_visits(many, list(lengths)))
                self.check_same(told, [nth_visits(many, list(lengths), index) for index in range(len(told))])
                self.check_same(list(range(len(told))), [visits_rank(many, visits) for visits in told])
                self.check_error(InvalidNumberError, nth_visits, many, list(lengths), len(told))

    def test_lengths_of_more_pages(self):
        for many, times in SMALL:
            for lengths in visits_by_lengths(many + 1, times):
                if max(lengths, default=0) > many:
                    self.check_same(0, count_visits(many, list(lengths)))
                    self.check_error(InvalidNumberError, nth_visits, many, list(lengths), 0)
                    self.check_error(InvalidLengthsError, lengths_rank, many, list(lengths))


class NoPagesTest(CallTest):
    def test_many_0_without_visits(self):
        for function, *args in ((count_lengths, 0, 0), (nth_lengths, 0, 0, 0), (lengths_rank, 0, []),
                                (count_visits, 0, []), (nth_visits, 0, [], 0), (visits_rank, 0, [])):
            self.check_error(InvalidNumberError, function, *args)


class IsLengthsTest(CallTest):
    def test_lengths(self):
        for value in GOOD:
            self.check_call(True, is_lengths, value=value)

    def test_others(self):
        for value in NO_LENGTHS:
            with self.subTest(value=repr(value)[:100]):
                self.assertIs(is_lengths(value), False)


class LengthsOfTest(CallTest):
    def test_document(self):
        self.check_call(V_LENGTHS, lengths_of, visits=V)

    def test_edges(self):
        self.check_call([], lengths_of, visits=[])
        self.check_call([1], lengths_of, visits=[39])
        self.check_call([1] * 300, lengths_of, visits=[39] * 300)
        self.check_call([*range(1, 41), 1], lengths_of, visits=[*range(40), 0])
        self.check_call([*range(1, 41), 40], lengths_of, visits=[*range(40), 39])

    def test_definition(self):
        for visits in [*small_visits(), *some_visits(), LONG]:
            lengths = lengths_of(visits)
            self.check_same(told_lengths(visits), lengths)
            self.assertTrue(is_lengths(lengths))

    def test_errors(self):
        self.check_wrong(lengths_of, {"visits": V}, [("visits", InvalidVisitsError, NO_VISITS)])


class CountLengthsTest(CallTest):
    def test_document(self):
        self.check_call(5, count_lengths, many=3, times=3)
        self.check_call(4, count_lengths, many=2, times=3)

    def test_edges(self):
        for many in (1, 2, 40):
            self.check_call(1, count_lengths, many=many, times=0)
            self.check_call(1, count_lengths, many=many, times=1)
        self.check_call(1, count_lengths, many=1, times=200)
        self.check_call(2 ** 199, count_lengths, many=2, times=200)

    def test_known_numbers(self):
        for times in range(41):
            self.assertEqual(count_lengths(40, times), math.comb(2 * times, times) // (times + 1))
        # Of the lengths of 41 visits only those from 1 to 41 need one page more.
        self.assertEqual(count_lengths(40, 41), math.comb(82, 41) // 42 - 1)
        # Each second one of the Fibonacci numbers.
        former, latter = 1, 1
        for times in range(1, 201):
            self.assertEqual(count_lengths(3, times), former)
            former, latter = former + latter, former + 2 * latter

    def test_errors(self):
        self.check_wrong(count_lengths, {"many": 3, "times": 3},
                         [("many", InvalidNumberError, NO_MANY), ("times", InvalidNumberError, NO_TIMES)])


class NthLengthsTest(CallTest):
    def test_document(self):
        self.check_call([1, 2, 2], nth_lengths, many=3, times=3, index=3)

    def test_edges(self):
        for many in (1, 2, 40):
            self.check_call([], nth_lengths, many=many, times=0, index=0)
            self.check_call([1], nth_lengths, many=many, times=1, index=0)
            for times in (0, 1):
                self.check_error(InvalidNumberError, nth_lengths, many, times, 1)
        self.check_call([1] * 200, nth_lengths, many=1, times=200, index=0)
        self.check_error(InvalidNumberError, nth_lengths, 1, 200, 1)
        self.check_call([1] * 200, nth_lengths, many=40, times=200, index=0)
        self.check_call([1] + [2] * 199, nth_lengths, many=2, times=200, index=2 ** 199 - 1)
        last = count_lengths(40, 200) - 1
        self.check_call([*range(1, 41)] + [40] * 160, nth_lengths, many=40, times=200, index=last)
        self.check_error(InvalidNumberError, nth_lengths, 40, 200, last + 1)

    def test_there_and_back(self):
        drawn = random.Random(21)
        for many, times in ((2, 200), (3, 100), (7, 31), (12, 200), (39, 60), (40, 200), (40, 41)):
            count = count_lengths(many, times)
            for index in (0, count - 1, *[drawn.randrange(count) for _ in range(20)]):
                lengths = nth_lengths(many, times, index)
                self.assertEqual((len(lengths), is_lengths(lengths)), (times, True))
                self.assertLessEqual(max(lengths), many)
                self.check_same(index, lengths_rank(many, lengths))
                if index + 1 < count:
                    self.assertLess(lengths, nth_lengths(many, times, index + 1))

    def test_errors(self):
        self.check_wrong(nth_lengths, {"many": 3, "times": 3, "index": 0},
                         [("many", InvalidNumberError, NO_MANY), ("times", InvalidNumberError, NO_TIMES),
                          ("index", InvalidNumberError, [*NO_NUMBERS, 5, 6, "0", [0]])])


class LengthsRankTest(CallTest):
    def test_document(self):
        self.check_call(4, lengths_rank, many=3, lengths=[1, 2, 3])

    def test_edges(self):
        for many in (1, 2, 40):
            self.check_call(0, lengths_rank, many=many, lengths=[])
            self.check_call(0, lengths_rank, many=many, lengths=[1])
            self.check_call(0, lengths_rank, many=many, lengths=[1] * 200)
        self.check_call(2 ** 199 - 1, lengths_rank, many=2, lengths=[1] + [2] * 199)

    def test_there_and_back(self):
        drawn = random.Random(22)
        for many, times in ((1, 9), (2, 200), (5, 77), (40, 200), (40, 40)):
            for _ in range(20):
                lengths = drawn_lengths(drawn, many, times)
                self.check_same(lengths, nth_lengths(many, times, lengths_rank(many, lengths)))

    def test_too_many_or_too_great(self):
        for many, lengths in ((40, [1] * 201), (40, [1] * 300), (1, [1] * 201), (1, [1, 2]), (2, [1, 2, 3]),
                              (39, list(range(1, 41))), (40, SAW), (2, [1, 2, 3, 1, 1])):
            self.check_error(InvalidLengthsError, lengths_rank, many, lengths)

    def test_errors(self):
        self.check_wrong(lengths_rank, {"many": 3, "lengths": [1, 2]},
                         [("many", InvalidNumberError, NO_MANY),
                          ("lengths", InvalidLengthsError, [*NO_LENGTHS, [1] * 201, [1, 2, 3, 4]])])


class CountVisitsTest(CallTest):
    def test_document(self):
        self.check_call(432, count_visits, many=4, lengths=V_LENGTHS)
        self.check_call(0, count_visits, many=1, lengths=[1, 2])

    def test_edges(self):
        for many in (1, 2, 40):
            self.check_call(1, count_visits, many=many, lengths=[])
            self.check_call(many, count_visits, many=many, lengths=[1])
            self.check_call(many, count_visits, many=many, lengths=[1] * 300)
        full = list(range(1, 41))
        self.check_call(math.factorial(40), count_visits, many=40, lengths=full)
        self.check_call(0, count_visits, many=39, lengths=full)
        self.check_call(0, count_visits, many=1, lengths=full)
        told = math.factorial(40) * math.factorial(39) ** 6 * math.perm(39, 19)
        self.check_call(told, count_visits, many=40, lengths=SAW)

    def test_errors(self):
        self.check_wrong(count_visits, {"many": 3, "lengths": [1, 2]},
                         [("many", InvalidNumberError, NO_MANY), ("lengths", InvalidLengthsError, NO_LENGTHS)])


class NthVisitsTest(CallTest):
    def test_document(self):
        self.check_call([0, 1, 0], nth_visits, many=4, lengths=[1, 2, 1], index=0)

    def test_edges(self):
        for many in (1, 2, 40):
            self.check_call([], nth_visits, many=many, lengths=[], index=0)
            self.check_call([many - 1], nth_visits, many=many, lengths=[1], index=many - 1)
            self.check_call([many - 1] * 300, nth_visits, many=many, lengths=[1] * 300, index=many - 1)
            self.check_error(InvalidNumberError, nth_visits, many, [], 1)
            self.check_error(InvalidNumberError, nth_visits, many, [1] * 300, many)
        full = list(range(1, 41))
        self.check_call(list(range(40)), nth_visits, many=40, lengths=full, index=0)
        last = math.factorial(40) - 1
        self.check_call(list(range(39, -1, -1)), nth_visits, many=40, lengths=full, index=last)
        self.check_error(InvalidNumberError, nth_visits, 40, full, last + 1)

    def test_no_visits_with_these_lengths(self):
        for many, lengths in ((1, [1, 2]), (39, list(range(1, 41))), (3, [1, 2, 3, 4, 1]), (1, [1, 2, 3])):
            for index in (0, 1, -1):
                self.check_error(InvalidNumberError, nth_visits, many, lengths, index)

    def test_there_and_back(self):
        drawn = random.Random(23)
        for many, times in ((1, 300), (2, 300), (5, 60), (12, 300), (40, 300), (40, 200)):
            for lengths in [drawn_lengths(drawn, many, times) for _ in range(3)] + ([SAW] if many == 40 else []):
                count = count_visits(many, lengths)
                for index in (0, count - 1, *[drawn.randrange(count) for _ in range(5)]):
                    visits = nth_visits(many, lengths, index)
                    self.check_same(lengths, told_lengths(visits))
                    self.assertTrue(all(0 <= page < many for page in visits))
                    self.check_same(index, visits_rank(many, visits))
                    if index + 1 < count:
                        self.assertLess(visits, nth_visits(many, lengths, index + 1))

    def test_errors(self):
        self.check_wrong(nth_visits, {"many": 3, "lengths": [1, 2], "index": 0},
                         [("many", InvalidNumberError, NO_MANY), ("lengths", InvalidLengthsError, NO_LENGTHS),
                          ("index", InvalidNumberError, [*NO_NUMBERS, 6, 7, "0", [0]])])


class VisitsRankTest(CallTest):
    def test_document(self):
        self.check_call(1, visits_rank, many=4, visits=[0, 2, 0])

    def test_edges(self):
        for many in (1, 2, 40):
            self.check_call(0, visits_rank, many=many, visits=[])
            self.check_call(many - 1, visits_rank, many=many, visits=[many - 1])
            self.check_call(many - 1, visits_rank, many=many, visits=[many - 1] * 300)
        self.check_call(math.factorial(40) - 1, visits_rank, many=40, visits=list(range(39, -1, -1)))

    def test_there_and_back(self):
        for visits in [*some_visits(), LONG]:
            for many in {max(visits) + 1, 40}:
                lengths = told_lengths(visits)
                self.check_same(visits, nth_visits(many, lengths, visits_rank(many, visits)))

    def test_pages_that_are_not_there(self):
        for many in (1, 2, 12, 39):
            for visits in ([many], [0, many], [many, 0], [0] * 299 + [many], [39], [0, 39, 0]):
                self.check_error(InvalidVisitsError, visits_rank, many, visits)

    def test_errors(self):
        self.check_wrong(visits_rank, {"many": 3, "visits": [0, 2]},
                         [("many", InvalidNumberError, NO_MANY),
                          ("visits", InvalidVisitsError, [*NO_VISITS, [3], [0, 3], [39]])])


if __name__ == "__main__":
    unittest.main()
