"""[64] to [66]: slips told apart, doubles of told points, and the longest ones."""

import unittest
from itertools import permutations, product
from random import Random

from checkwright.apart import all_points, are_two_ways, by_points, spread_double, two_ways, unseen_swaps
from checkwright.doubles import explained, is_double, point_of
from checkwright.errors import InvalidLinear, InvalidMember, InvalidNumber, InvalidRow, InvalidSlip
from checkwright.plain import is_prime_below
from tests.helper import (
    Case, drawn_double, explained_by_words, strange, sums_of_double, wrong_codes, wrong_columns, wrong_counts, wrong_doubles,
    wrong_kind_lists, wrong_primes, wrong_slips, wrong_totals,
)

FIVE = (5, [(1, 0), (1, 1), (1, 2)], (0, 0))
LAZY = (5, [(1, 0), (2, 0), (0, 1)], (0, 0))
DOUBLE = ("double", InvalidLinear, wrong_doubles())
KINDS = ("kinds", InvalidSlip, wrong_kind_lists("single", "swap"))
PRIME = ("prime", InvalidNumber, wrong_primes(1000, 1009))
TOTALS = ("totals", InvalidMember, wrong_totals(5))
KIND_LISTS = (["single"], ["swap"], ["single", "swap"])


def points_of(prime):
    return [(0, 1)] + [(1, last) for last in range(prime)]


def shapes_of(prime, columns):
    """The points of the columns and of the differences of neighbours, in turn, None for no point."""
    told = []
    for place, column in enumerate(columns):
        if place > 0:
            step = tuple((one - two) % prime for one, two in zip(columns[place - 1], column))
            told.append(None if step == (0, 0) else point_of(prime, step))
        told.append(point_of(prime, column))
    return told


class ToldApart(Case):
    def check(self, double, kinds):
        """That two ways are told exactly if there are some; whether there are."""
        ways = [code for code, told in explained_by_words(double, kinds).items() if len(told) > 1]
        found = self.run_it(two_ways, double=double, kinds=kinds)
        if not ways:
            self.assertIsNone(found, (double, kinds))
            return False
        self.assertIsInstance(found, tuple)
        code, one, other = found
        slips = [slip for slip, _ in explained_by_words(double, kinds)[tuple(code)]]
        self.assertTrue(one in slips and other in slips and one < other)
        self.assertIs(are_two_ways(double, kinds, found), True)
        return True

    def test_all_small_ones(self):
        found = set()
        for prime, places in [(2, 2), (2, 3), (2, 4), (3, 2)]:
            columns = [pair for pair in product(range(prime), repeat=2) if pair != (0, 0)]
            for told in product(columns, repeat=places):
                for totals in product(range(prime), repeat=2):
                    double = (prime, list(told), totals)
                    if is_double(double):
                        for kinds in KIND_LISTS:
                            found.add((tuple(kinds), self.check(double, kinds)))
        self.assertEqual(len(found), 6)

    def test_drawn_ones(self):
        random, found = Random(640), []
        for prime, places, many in [(2, 5, 40), (2, 6, 20), (3, 3, 200), (3, 4, 60), (3, 5, 20), (5, 2, 60), (5, 3, 80), (5, 4, 10), (7, 3, 40)]:
            for _ in range(many):
                double = drawn_double(random, prime, places)
                if random.random() < 0.3:
                    prime, columns, totals = double
                    columns = [random.choice(columns[:2]) for _ in columns]
                    double = (prime, columns, totals) if is_double((prime, columns, totals)) else double
                for kinds in KIND_LISTS:
                    found.append((tuple(kinds), self.check(double, kinds)))
        for kinds in KIND_LISTS:
            for wanted in (True, False):
                self.assertGreater(found.count((tuple(kinds), wanted)), 20)

    def test_it_hangs_on_the_totals_too(self):
        # How much the signs of two places differ can be told by the sums alone, and then it must not be 0.
        for prime, columns in [(2, [(0, 1), (1, 0), (1, 1)]), (3, [(0, 1), (1, 0), (2, 2)]), (5, [(1, 0), (0, 1), (2, 4)])]:
            found = [self.check((prime, columns, totals), ["single", "swap"]) for totals in product(range(prime), repeat=2)]
            self.assertEqual(set(found), {True, False}, columns)

    def test_single_slips(self):
        random = Random(641)
        for prime in (5, 97):
            for _ in range(30):
                double = drawn_double(random, prime, random.randrange(2, 7))
                points = [point_of(prime, column) for column in double[1]]
                self.assertEqual(two_ways(double, ["single"]) is None, len(set(points)) == len(points))

    def test_words(self):
        self.gives(None, two_ways, double=FIVE, kinds=["single"])
        self.gives(None, two_ways, double=FIVE, kinds=["swap"])
        self.gives(None, two_ways, double=FIVE, kinds=["single", "swap"])
        self.assertIsNotNone(two_ways((5, FIVE[1], (1, 0)), ["swap"]))
        same = (5, [(1, 1), (1, 1), (1, 1), (0, 1)], (2, 3))
        code, one, other = two_ways(same, ["swap"])
        self.assertEqual(sums_of_double(same, code), (2, 3))
        self.assertEqual((one[:2], other[:2]), (("swap", 0), ("swap", 1)))

    def test_ninety_seven_and_twelve_columns(self):
        random = Random(642)
        for places in (3, 11, 12):
            spread = spread_double(97, places, (3, 96))
            drawn = drawn_double(random, 97, places)
            repeated = (97, [(1, 1)] * (places - 1) + [(0, 1)], (5, 6))
            steps = (97, [(1, place) for place in range(places)], (1, 2))
            for double in (spread, drawn, repeated, steps):
                for kinds in KIND_LISTS:
                    with self.within_seconds():
                        found = two_ways(double, kinds)
                    if double is spread:
                        self.assertIsNone(found)
                    if found is not None:
                        self.gives(True, are_two_ways, double=double, kinds=kinds, value=found)
            self.assertIsNotNone(two_ways(repeated, ["single"]))
            self.assertEqual(two_ways(repeated, ["swap"]) is None, places == 3)
            self.assertIsNone(two_ways(steps, ["single"]))
            self.assertIsNotNone(two_ways(steps, ["swap"]))

    def test_are_two_ways(self):
        kinds = ["single"]
        value = ([1, 0, 0], ("single", 0, 0, 1), ("single", 1, 2, 0))
        code, one, other = value
        wrong = strange() + [
            (code, other, one), (code, one, one), (code, one), (code, one, other, other), list(value), (one, other, code), code,
            ([0, 0, 0], one, other), ([1, 0, 1], one, other), ([True, 0, 0], one, other), ([1, 0, False], one, other),
            (code, ("single", False, 0, 1), other), (code, one, ("single", True, 2, 0)), (code, one, ("single", 1, 2, False)),
            (code, ("single", 0, 0, True), other), (code, list(one), other), (code, one, ("single", 1, 3, 0)), (tuple(code), one, other),
            (code, one, ("swap", 1, 2, 0)), (code, one, ("single", 2, 2, 0)), (code, one, ("twin", 1, 2, 0)),
        ] + [(bad, one, other) for bad in wrong_codes(3, 5)] + [(code, bad, other) for bad in wrong_slips(3, 5)]
        wrong += [(code, one, bad) for bad in wrong_slips(3, 5)]
        self.judges(are_two_ways, [value], wrong, double=LAZY, kinds=kinds)
        self.judges(are_two_ways, [value], wrong, double=LAZY, kinds=["single", "swap"])
        self.judges(are_two_ways, [], wrong + [value], double=LAZY, kinds=["swap"])
        self.judges(are_two_ways, [], wrong + [value], double=FIVE, kinds=kinds)

    def test_are_two_ways_of_all_slips(self):
        random = Random(643)
        for double in [drawn_double(random, 3, 3) for _ in range(4)] + [(3, [(1, 1), (1, 1), (0, 1)], (0, 0))]:
            by_words = explained_by_words(double, ["single", "swap"])
            for code in product(range(3), repeat=3):
                slips = [slip for slip, _ in by_words.get(code, [])]
                every = [("single", place, *pair) for place in range(3) for pair in permutations(range(3), 2)]
                every += [("swap", place, *pair) for place in range(2) for pair in permutations(range(3), 2)]
                for one, other in product(every, repeat=2):
                    wanted = one in slips and other in slips and one < other
                    self.assertIs(are_two_ways(double, ["single", "swap"], (list(code), one, other)), wanted)

    def test_unseen_swaps(self):
        self.gives([0], unseen_swaps, double=(3, [(1, 1), (1, 1), (0, 1)], (0, 0)))
        self.gives([1, 2, 4], unseen_swaps, double=(3, [(1, 1), (0, 1), (0, 1), (0, 1), (2, 2), (2, 2)], (0, 0)))
        self.gives([], unseen_swaps, double=(3, [(1, 1), (2, 2), (0, 1)], (0, 0)))
        random = Random(644)
        for _ in range(30):
            double = drawn_double(random, 2, 6)
            by_words = explained_by_words(double, ["swap"])
            right = [code for code in product(range(2), repeat=6) if sums_of_double(double, code) == double[2]]
            places = {slip[1] for code in right for slip, _ in by_words.get(code, [])}
            self.assertTrue(places <= set(unseen_swaps(double)))
            for place in unseen_swaps(double):
                self.assertEqual(double[1][place], double[1][place + 1])

    def test_errors(self):
        self.refuses(two_ways, {"double": FIVE, "kinds": ["swap"]}, [DOUBLE, KINDS])
        self.refuses_first(are_two_ways, {
            "double": LAZY, "kinds": ["single"], "value": ([1, 0, 0], ("single", 0, 0, 1), ("single", 1, 2, 0))}, [DOUBLE, KINDS])
        self.refuses(unseen_swaps, {"double": FIVE}, [DOUBLE])


def wrong_points():
    """What is no list of an odd number, at least 3, of unlike points modulo five."""
    told = [(0, 1), (1, 0), (1, 4)]
    return strange() + [
        [], told[:1], told[:2], told + [(1, 1)], told[:2] + [(0, 1)], told[:2] + [(0, 2)], told[:2] + [(2, 0)], told[:2] + [(4, 1)],
        told + [(1, 1), (1, 1)], told + [(1, 1), (2, 3)], tuple(told), dict(enumerate(told)), [told], told[0], 3,
    ] + [told[:2] + [bad] for bad in wrong_columns(5)] + [[bad] + told[1:] for bad in wrong_columns(5)]


class Built(Case):
    def test_all_lists_of_points(self):
        for prime, most in [(2, 3), (3, 3), (5, 5)]:
            points = points_of(prime)
            for many in range(3, most + 1, 2):
                for told in permutations(points, many):
                    totals = (prime - 1, 0)
                    double = self.run_it(by_points, prime=prime, points=list(told), totals=totals)
                    self.assertTrue(is_double(double))
                    self.assertEqual((double[0], double[2]), (prime, totals))
                    self.assertEqual(shapes_of(prime, double[1]), list(told))
                    for kinds in KIND_LISTS:
                        self.assertIsNone(two_ways(double, kinds))

    def test_two_of_them_differ_by_one_number(self):
        prime, points = 5, [(1, 3), (0, 1), (1, 0), (1, 1), (1, 4)]
        mine = by_points(prime, points, (0, 0))[1]
        found = []
        for columns in product(product(range(prime), repeat=2), repeat=3):
            if (0, 0) not in columns and shapes_of(prime, columns) == points:
                found.append(list(columns))
        wanted = [[(times * a % prime, times * b % prime) for a, b in mine] for times in range(1, prime)]
        self.assertEqual(sorted(found), sorted(wanted))

    def test_all_points(self):
        for prime in (2, 3, 5, 11):
            double = self.run_it(all_points, prime=prime, totals=(0, 1))
            self.same(double, (prime, points_of(prime), (0, 1)))
            self.assertTrue(is_double(double))
            self.assertIsNone(two_ways(double, ["single"]))
            if prime < 11:
                for column in double[1]:
                    self.assertIsNotNone(two_ways((prime, double[1] + [column], (0, 1)), ["single"]))
        with self.within_seconds():
            self.assertEqual(len(all_points(997, (996, 996))[1]), 998)

    def test_spread_ones_exactly_where_they_can_be(self):
        for prime in (2, 3, 5, 7, 11, 13):
            for places in range(2, 12):
                double = self.run_it(spread_double, prime=prime, places=places, totals=(1, prime - 1))
                if 2 * places - 1 > prime + 1:
                    self.assertIsNone(double)
                    continue
                self.assertTrue(is_double(double))
                self.assertEqual((double[0], len(double[1]), double[2]), (prime, places, (1, prime - 1)))
                shapes = shapes_of(prime, double[1])
                self.assertNotIn(None, shapes)
                self.assertEqual(len(set(shapes)), 2 * places - 1)
        self.gives(None, spread_double, prime=997, places=10 ** 29, totals=(0, 0))
        self.gives(None, spread_double, prime=2, places=3, totals=(0, 0))
        self.assertIsNotNone(spread_double(2, 2, (0, 0)))
        with self.within_seconds():
            double = spread_double(997, 24, (0, 996))
            self.assertEqual(len(set(shapes_of(997, double[1]))), 47)
            self.assertIsNone(two_ways(double, ["single", "swap"]))

    def test_they_need_not_be_spread_to_be_told_apart(self):
        random, found = Random(660), 0
        for _ in range(200):
            double = drawn_double(random, 11, 3)
            shapes = shapes_of(11, double[1])
            spread = None not in shapes and len(set(shapes)) == len(shapes)
            none = two_ways(double, ["single", "swap"]) is None
            self.assertTrue(none or not spread)
            found += none and not spread
        double = (5, [(1, 0), (0, 1)], (0, 0))
        self.assertIsNone(two_ways(double, ["single", "swap"]))
        self.assertEqual(explained(double, ["single", "swap"], [1, 0]), [("single", 0, 0, 1)])

    def test_errors(self):
        self.assertTrue(is_prime_below(997, 1000))
        points = ("points", InvalidRow, wrong_points())
        self.refuses(by_points, {"prime": 5, "points": [(0, 1), (1, 0), (1, 4)], "totals": (0, 4)}, [PRIME, points, TOTALS])
        self.refuses(all_points, {"prime": 5, "totals": (4, 0)}, [PRIME, TOTALS])
        self.refuses(spread_double, {"prime": 5, "places": 3, "totals": (0, 0)}, [
            PRIME, ("places", InvalidNumber, wrong_counts(2)), TOTALS])
        self.refuses(spread_double, {"prime": 5, "places": 9, "totals": (0, 0)}, [
            PRIME, ("places", InvalidNumber, wrong_counts(2)), TOTALS])


if __name__ == "__main__":
    unittest.main()
