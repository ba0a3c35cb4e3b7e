"""Free visits by the lengths of their trails: [20]."""

import collections
import fractions
import itertools
import math
import unittest

from breadcrumbs.errors import InvalidNumberError
from breadcrumbs.free import count_free, free_by_length, mean_length
from tests.helper import NO_MANY, NO_NUMBERS, NO_TIMES, CallTest, simulated

SMALL = [(many, times) for many, most in ((1, 6), (2, 8), (3, 7), (4, 6), (5, 4)) for times in range(most + 1)]
LARGE = [(1, 200), (2, 200), (7, 150), (12, 60), (39, 40), (40, 1), (40, 39), (40, 40), (40, 41), (40, 199), (40, 200)]


def all_trails(many, times):
    """How many lists of visits have each trail, by making all visits."""
    return collections.Counter(tuple(simulated(visits)) for visits in itertools.product(range(many), repeat=times))


def told_number(many, times, length):
    """The number of lists with a given trail, by the ways between two pages of it.

    Behind each page of the trail come visits that end with this page and avoid the pages before it.
    """
    numbers = [1] + [0] * times
    for place in range(length):
        others = many - place
        part = [1] + [others ** (size - 1) for size in range(1, times + 1)]
        numbers = [sum(numbers[size] * part[whole - size] for size in range(whole + 1)) for whole in range(times + 1)]
    return numbers[times - length] if length <= times else 0


class SearchTest(CallTest):
    """Compares with a search over all lists of visits."""

    def test_all_trails_of_a_length_have_the_same_number(self):
        for many, times in SMALL:
            found = all_trails(many, times)
            for length in range(many + 1):
                for trail in itertools.permutations(range(many), length):
                    self.check_same(found[trail], count_free(many, times, length))

    def test_by_length(self):
        for many, times in SMALL:
            told = [0] * (many + 1)
            for trail, number in all_trails(many, times).items():
                told[len(trail)] += number
            self.check_same(told, free_by_length(many, times))

    def test_mean(self):
        for many, times in SMALL:
            found = all_trails(many, times)
            mean = fractions.Fraction(sum(len(trail) * number for trail, number in found.items()), many ** times)
            self.check_same((mean.numerator, mean.denominator), mean_length(many, times))


class LargeTest(CallTest):
    def test_count(self):
        for many, times in LARGE:
            for length in {0, 1, 2, many // 2, many - 1, many}:
                if length <= many:
                    self.check_same(told_number(many, times, length), count_free(many, times, length))

    def test_all_lists_are_counted(self):
        for many, times in LARGE:
            numbers = free_by_length(many, times)
            self.assertEqual((len(numbers), sum(numbers)), (many + 1, many ** times))
            for length, number in enumerate(numbers):
                self.assertEqual(number, count_free(many, times, length) * math.perm(many, length))

    def test_mean(self):
        for many, times in LARGE:
            top, bottom = mean_length(many, times)
            numbers = free_by_length(many, times)
            whole = sum(length * number for length, number in enumerate(numbers))
            self.assertEqual(fractions.Fraction(top, bottom), fractions.Fraction(whole, many ** times))
            self.assertEqual(math.gcd(top, bottom), 1)
            self.assertGreaterEqual(bottom, 1)


class CountFreeTest(CallTest):
    def test_document(self):
        for length, number in enumerate([0, 3, 2, 1]):
            self.check_call(number, count_free, many=3, times=3, length=length)

    def test_edges(self):
        self.check_call(1, count_free, many=1, times=0, length=0)
        self.check_call(0, count_free, many=1, times=0, length=1)
        self.check_call(0, count_free, many=1, times=1, length=0)
        self.check_call(1, count_free, many=1, times=1, length=1)
        self.check_call(1, count_free, many=1, times=200, length=1)
        self.check_call(1, count_free, many=40, times=0, length=0)
        self.check_call(0, count_free, many=40, times=0, length=40)
        self.check_call(0, count_free, many=40, times=200, length=0)
        self.check_call(1, count_free, many=40, times=40, length=40)
        self.check_call(0, count_free, many=40, times=39, length=40)
        self.check_call(40 ** 198, count_free, many=40, times=200, length=1)
        self.check_call(40 ** 160, count_free, many=40, times=200, length=40)

    def test_errors(self):
        self.check_wrong(count_free, {"many": 3, "times": 3, "length": 2},
                         [("many", InvalidNumberError, NO_MANY), ("times", InvalidNumberError, NO_TIMES),
                          ("length", InvalidNumberError, [*NO_NUMBERS, 4, 5, 40, "3", [3]])])
        self.check_error(InvalidNumberError, count_free, 40, 200, 41)
        self.check_error(InvalidNumberError, count_free, 1, 0, 2)


class FreeByLengthTest(CallTest):
    def test_document(self):
        self.check_call([0, 9, 12, 6], free_by_length, many=3, times=3)

    def test_edges(self):
        self.check_call([1, 0], free_by_length, many=1, times=0)
        self.check_call([0, 1], free_by_length, many=1, times=1)
        self.check_call([0, 1], free_by_length, many=1, times=200)
        self.check_call([1] + [0] * 40, free_by_length, many=40, times=0)
        self.check_call([0, 40] + [0] * 39, free_by_length, many=40, times=1)
        self.check_call([0, 2 ** 199, 2 ** 199], free_by_length, many=2, times=200)

    def test_errors(self):
        self.check_wrong(free_by_length, {"many": 3, "times": 3},
                         [("many", InvalidNumberError, NO_MANY), ("times", InvalidNumberError, NO_TIMES)])


class MeanLengthTest(CallTest):
    def test_document(self):
        self.check_call((17, 9), mean_length, many=3, times=3)
        self.check_call((0, 1), mean_length, many=3, times=0)

    def test_edges(self):
        self.check_call((0, 1), mean_length, many=1, times=0)
        self.check_call((1, 1), mean_length, many=1, times=200)
        self.check_call((0, 1), mean_length, many=40, times=0)
        self.check_call((1, 1), mean_length, many=40, times=1)
        self.check_call((79, 40), mean_length, many=40, times=2)
        self.check_call((3, 2), mean_length, many=2, times=200)

    def test_errors(self):
        self.check_wrong(mean_length, {"many": 3, "times": 3},
                         [("many", InvalidNumberError, NO_MANY), ("times", InvalidNumberError, NO_TIMES)])


if __name__ == "__main__":
    unittest.main()
