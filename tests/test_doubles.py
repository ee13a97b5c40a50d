"""[62], [63] and [67]: doubles, what befell a number, and unreadable signs."""

import unittest
from itertools import combinations, product
from random import Random

from checkwright.doubles import (
    could_have_been, explained, filled_numbered, how_many_filled, is_double, is_right_double, off_sums, point_of,
)
from checkwright.errors import InvalidCode, InvalidLinear, InvalidNumber, InvalidRow, InvalidSlip
from tests.helper import (
    Case, all_slips, behind, drawn_double, explained_by_words, right_of_double, sums_of_double, wrong_codes, wrong_columns,
    wrong_counts, wrong_doubles, wrong_gaps, wrong_kind_lists, wrong_primes,
)

FIVE = (5, [(1, 0), (1, 1), (1, 2)], (0, 0))
DOUBLE = ("double", InvalidLinear, wrong_doubles())
CODE = ("code", InvalidCode, wrong_codes(3, 5))
KINDS = ("kinds", InvalidSlip, wrong_kind_lists("single", "swap"))
PRIMES = [number for number in range(2, 1000) if all(number % divisor for divisor in range(2, number))]


def small_doubles(seed):
    random, told = Random(seed), []
    for prime, places, many in [(2, 2, 4), (2, 3, 6), (2, 5, 6), (3, 2, 5), (3, 3, 6), (3, 4, 6), (5, 2, 4), (5, 3, 6), (7, 3, 3)]:
        for _ in range(many):
            told.append(drawn_double(random, prime, places))
    told.append((3, [(1, 1), (1, 1), (0, 1)], (2, 1)))
    told.append((5, [(1, 0), (2, 0), (0, 1)], (0, 3)))
    told.append((2, [(1, 1), (1, 1), (1, 1), (0, 1), (0, 1)], (1, 0)))
    return told


class Doubles(Case):
    def test_is_double(self):
        right = [
            FIVE, (2, [(1, 1), (0, 1)], (1, 0)), (5, [(1, 2), (2, 4), (1, 3)], (4, 4)), (5, [(1, 1), (1, 1), (0, 1)], (0, 0)),
            (997, [(996, 0), (0, 996)], (996, 996)), (3, [(1, 1), (1, 2)] * 12, (2, 0)), (5, [(0, 4), (3, 0)], (1, 2)),
            (5, [(0, 4), (0, 1), (0, 2), (1, 0)], (1, 2)),
        ]
        self.judges(is_double, right, wrong_doubles())

    def test_which_primes(self):
        for prime in range(-2, 1100):
            self.assertIs(is_double((prime, [(1, 0), (1, 1)], (0, 0))), prime in PRIMES)

    def test_all_small_ones(self):
        for prime in (2, 3):
            pairs = list(product(range(prime), repeat=2))
            for columns in product(pairs, repeat=3):
                lines = [{(times * a % prime, times * b % prime) for times in range(1, prime)} for a, b in columns]
                wanted = (0, 0) not in columns and any(line != lines[0] for line in lines)
                self.assertIs(is_double((prime, list(columns), (1, 0))), wanted)

    def test_sums(self):
        for double in small_doubles(620):
            prime, columns, totals = double
            right = 0
            for code in product(range(prime), repeat=len(columns)):
                sums = sums_of_double(double, code)
                off = tuple((one - total) % prime for one, total in zip(sums, totals))
                self.gives(off, off_sums, double=double, code=list(code))
                self.gives(off == (0, 0), is_right_double, double=double, code=list(code))
                right += off == (0, 0)
            self.assertEqual(right, prime ** (len(columns) - 2))

    def test_points(self):
        for prime in (2, 3, 5, 11):
            columns = [pair for pair in product(range(prime), repeat=2) if pair != (0, 0)]
            found = set()
            for column in columns:
                line = [tuple(times * one % prime for one in column) for times in range(1, prime)]
                self.gives(min(line), point_of, prime=prime, column=column)
                found.add(min(line))
            self.assertEqual(sorted(found), [(0, 1)] + [(1, last) for last in range(prime)])
        for prime in (797, 997):
            for column in [(prime - 1, 1), (2, prime - 2), (0, 5), (3, 0)]:
                line = [tuple(times * one % prime for one in column) for times in range(1, prime)]
                self.gives(min(line), point_of, prime=prime, column=column)

    def test_errors(self):
        good = {"double": FIVE, "code": [1, 3, 1]}
        for function in (off_sums, is_right_double):
            self.refuses(function, good, [DOUBLE, CODE])
        self.refuses(point_of, {"prime": 5, "column": (2, 4)}, [
            ("prime", InvalidNumber, wrong_primes(1000, 1009)), ("column", InvalidRow, wrong_columns(5))])


class WhatBefellIt(Case):
    def test_against_all_slips(self):
        found = set()
        for double in small_doubles(630):
            prime, columns, _ = double
            for kinds in (["single"], ["swap"], ["single", "swap"]):
                by_words = explained_by_words(double, kinds)
                for code in product(range(prime), repeat=len(columns)):
                    told = by_words.get(code, [])
                    slips = [slip for slip, _ in told]
                    self.gives(slips, explained, double=double, kinds=kinds, code=list(code))
                    right = [list(number) for number in sorted({number for _, number in told})]
                    self.gives(right, could_have_been, double=double, kinds=kinds, code=list(code))
                    found.add(len(slips))
        self.assertTrue({0, 1, 2, 3} <= found)

    def test_right_numbers(self):
        for double in small_doubles(631):
            columns = double[1]
            for code in right_of_double(double):
                self.gives([], explained, double=double, kinds=["single"], code=list(code))
                slips = [
                    ("swap", place, code[place + 1], code[place]) for place in range(len(columns) - 1)
                    if columns[place] == columns[place + 1] and code[place] != code[place + 1]]
                self.gives(slips, explained, double=double, kinds=["swap"], code=list(code))

    def test_large_ones(self):
        random = Random(632)
        for prime, places in [(997, 24), (97, 24), (991, 2)]:
            double = drawn_double(random, prime, places)
            gaps = [None] * places
            right = filled_numbered(double, gaps, prime ** (places - 2) // 3)
            self.gives(True, is_right_double, double=double, code=right)
            for slip in random.sample(all_slips(11, places, "single") + all_slips(11, places, "swap"), 40):
                last = slip[1] + (slip[0] == "swap")
                code = list(right)
                code[slip[1]], code[last] = slip[2], slip[3] if slip[0] == "swap" else slip[2]
                told = (prime, double[1], sums_of_double(double, code))
                turned = behind(code, slip)
                with self.within_seconds(2):
                    self.assertIn(slip, explained(told, [slip[0]], turned))
                    self.assertIn(code, could_have_been(told, ["single", "swap"], turned))

    def test_errors(self):
        for function in (explained, could_have_been):
            self.refuses(function, {"double": FIVE, "kinds": ["swap"], "code": [3, 1, 1]}, [DOUBLE, KINDS, CODE])


class Unreadable(Case):
    def test_against_all_numbers(self):
        for double in small_doubles(670):
            prime, columns, _ = double
            right = sorted(right_of_double(double))
            random = Random(671)
            every = list(product([None, *range(prime)], repeat=len(columns)))
            for gaps in random.sample(every, min(len(every), 60)) + [(None,) * len(columns)]:
                told = [list(code) for code in right if all(sign in (None, code[place]) for place, sign in enumerate(gaps))]
                self.gives(len(told), how_many_filled, double=double, gaps=list(gaps))
                for number, code in enumerate(told):
                    self.gives(code, filled_numbered, double=double, gaps=list(gaps), number=number)
                for number in (len(told), len(told) + 3, 10 ** 30 - 1):
                    self.gives(None, filled_numbered, double=double, gaps=list(gaps), number=number)

    def test_columns_of_one_point_and_of_more(self):
        double = (7, [(1, 2), (2, 4), (3, 0), (6, 5), (1, 1)], (3, 4))
        found = {}
        for gaps in [list(gaps) for many in (2, 3) for gaps in combinations(range(5), many)]:
            for told in product(range(7), repeat=5 - len(gaps)):
                rest = list(told)
                told_gaps = [None if place in gaps else rest.pop() for place in range(5)]
                found.setdefault(tuple(gaps), set()).add(how_many_filled(double, told_gaps))
        for gaps, many in found.items():
            one_point = set(gaps) <= {0, 1, 3}
            self.assertEqual(many, {0, 7 ** (len(gaps) - 1)} if one_point else {7 ** (len(gaps) - 2)})

    def test_words(self):
        self.gives(1, how_many_filled, double=FIVE, gaps=[1, 3, 1])
        self.gives(0, how_many_filled, double=FIVE, gaps=[1, 3, 2])
        self.gives([1, 3, 1], filled_numbered, double=FIVE, gaps=[1, 3, 1], number=0)
        self.gives(None, filled_numbered, double=FIVE, gaps=[1, 3, 2], number=0)
        self.gives(1, how_many_filled, double=FIVE, gaps=[1, 3, None])
        self.gives(0, how_many_filled, double=FIVE, gaps=[1, 2, None])
        self.gives(5, how_many_filled, double=FIVE, gaps=[None, None, None])

    def test_large_ones(self):
        random = Random(672)
        for prime in (997, 991, 2):
            double = drawn_double(random, prime, 24)
            gaps = [None] * 24
            self.gives(prime ** 22, how_many_filled, double=double, gaps=gaps)
            for number in (0, 1, prime ** 22 - 1, 10 ** 29 % prime ** 22):
                with self.within_seconds():
                    code = filled_numbered(double, gaps, number)
                self.assertEqual(sums_of_double(double, code), double[2])
                if number < prime:
                    self.assertEqual(code[:20], [0] * 20)
            self.gives(None, filled_numbered, double=double, gaps=gaps, number=prime ** 22)
            lazy = (prime, [(1, 1)] * 23 + [(0, 1)], (0, 1))
            self.gives(prime ** 22, how_many_filled, double=lazy, gaps=[None] * 23 + [1])
            self.gives(0, how_many_filled, double=lazy, gaps=[None] * 23 + [0])
            with self.within_seconds():
                self.gives([prime - 1] * 22 + [22 % prime, 1], filled_numbered, double=lazy, gaps=[None] * 23 + [1],
                           number=prime ** 22 - 1)

    def test_errors(self):
        good = {"double": FIVE, "gaps": [None, 3, None]}
        gaps = ("gaps", InvalidCode, wrong_gaps(3, 5))
        self.refuses(how_many_filled, good, [DOUBLE, gaps])
        self.refuses(filled_numbered, {**good, "number": 0}, [DOUBLE, gaps, ("number", InvalidNumber, wrong_counts(0))])


if __name__ == "__main__":
    unittest.main()
