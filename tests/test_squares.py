"""[44], [47] and [48]: squares, put together and quiet ones."""

import unittest
from itertools import permutations, product
from math import gcd
from random import Random

from checkwright.chains import is_quiet_square, swaps_of
from checkwright.errors import InvalidNumber, InvalidSquare, InvalidTable, Stuck
from checkwright.squares import (
    field_square, how_many_swaps, is_square, joined_squares, quiet_square, renamed, weighted,
)
from tests.helper import Case, strange, wrong_counts, wrong_squares, wrong_tables

SQUARE = ("square", InvalidSquare, wrong_squares())
THREE = [[2, 0, 1], [0, 1, 2], [1, 2, 0]]


def is_square_by_words(rows):
    numbers = list(range(len(rows)))
    columns = [list(column) for column in zip(*rows)]
    return all(sorted(line) == numbers for line in rows + columns)


def all_squares(size):
    """All squares of a small size."""
    found = []
    for rows in product(permutations(range(size)), repeat=size):
        if all(len(set(column)) == size for column in zip(*rows)):
            found.append([list(row) for row in rows])
    return found


def drawn_square(random, size):
    """A square with other rows, columns and entries than one that adds, or one that is put together."""
    rows = [[(state + sign) % size for sign in range(size)] for state in range(size)]
    if size == 4 and random.random() < 0.5:
        rows = [[state ^ sign for sign in range(4)] for state in range(4)]
    places, columns, names = [random.sample(range(size), size) for _ in range(3)]
    return [[names[rows[place][column]] for column in columns] for place in places]


def some_squares():
    random = Random(440)
    told = [[[0, 1], [1, 0]], [[1, 0], [0, 1]], THREE]
    told += [field_of(2), field_of(3), adding(7, 3), adding(8, 3), adding(9, 2)]
    return told + [drawn_square(random, size) for size in (3, 4, 4, 5, 6, 7, 10)]


def adding(size, weight):
    return [[(weight * state + sign) % size for sign in range(size)] for state in range(size)]


def field_of(bits):
    """The square of the words of [44], bit by bit."""
    taken = {2: 0b111, 3: 0b1011, 4: 0b10011}[bits]
    rows = []
    for state in range(2 ** bits):
        moved = 2 * state
        if moved.bit_length() > bits:
            moved ^= taken
        rows.append([sign ^ moved for sign in range(2 ** bits)])
    return rows


def swaps_by_words(square):
    signs = range(len(square))
    return [
        (s, x, y) for s in signs for x in signs for y in range(x + 1, len(square))
        if square[square[s][x]][y] == square[square[s][y]][x]]


class Squares(Case):
    def test_every_small_one(self):
        for size, many in [(2, 2), (3, 12)]:
            found = 0
            for told in product(range(size), repeat=size * size):
                rows = [list(told[at:at + size]) for at in range(0, size * size, size)]
                self.assertIs(is_square(rows), is_square_by_words(rows))
                found += is_square(rows)
            self.assertEqual(found, many)
        squares = all_squares(4)
        self.assertEqual(len(squares), 576)
        for square in squares:
            self.assertIs(is_square(square), True)

    def test_any_value(self):
        self.judges(is_square, some_squares() + [adding(24, 5)], wrong_squares())
        for square in some_squares():
            for state, sign in product(range(len(square)), repeat=2):
                rows = [list(row) for row in square]
                rows[state][sign] = (rows[state][sign] + 1) % len(square)
                self.assertIs(is_square(rows), False)

    def test_rows_alone_and_columns_alone(self):
        self.gives(False, is_square, value=[[0, 1, 2]] * 3)
        self.gives(False, is_square, value=[[0] * 3, [1] * 3, [2] * 3])
        self.gives(False, is_square, value=[[0, 1, 2], [1, 2, 0], [2, 1, 0]])

    def test_weighted(self):
        for size in range(2, 25):
            for weight in range(1, size):
                if gcd(weight, size) == 1:
                    square = self.run_it(weighted, size=size, weight=weight)
                    self.same(square, adding(size, weight))
                    self.assertTrue(is_square(square))
                    self.assertIs(is_quiet_square(square), gcd(weight - 1, size) == 1)
                else:
                    self.raises(InvalidNumber, weight, weighted, size=size, weight=weight)

    def test_field_square(self):
        for bits in (2, 3, 4):
            square = self.run_it(field_square, bits=bits)
            self.same(square, field_of(bits))
            self.assertTrue(is_square(square))
            self.gives(True, is_quiet_square, square=square)

    def test_renamed(self):
        random = Random(441)
        for square in some_squares():
            size = len(square)
            for _ in range(3):
                states, signs = random.sample(range(size), size), random.sample(range(size), size)
                told = self.run_it(renamed, square=square, states=states, signs=signs)
                for s, x in product(range(size), repeat=2):
                    self.assertEqual(told[states[s]][signs[x]], states[square[s][x]])
                self.gives(True, is_square, value=told)
                self.assertEqual([len(row) for row in told], [size] * size)
                self.gives(len(swaps_by_words(square)), how_many_swaps, square=told)

    def test_errors(self):
        self.refuses(weighted, {"size": 10, "weight": 3}, [
            ("size", InvalidNumber, wrong_counts(2)),
            ("weight", InvalidNumber, strange() + [0, -1, 2, 4, 5, 6, 8, 10, 11, 13, -3, 10 ** 29 + 1, [3], "3"])])
        self.refuses(field_square, {"bits": 3}, [
            ("bits", InvalidNumber, strange() + [0, 1, 5, 6, -2, 10 ** 29, [2], "2", (3,)])])
        self.refuses(renamed, {"square": THREE, "states": [1, 0, 2], "signs": [2, 1, 0]}, [
            SQUARE, ("states", InvalidTable, wrong_tables(3)), ("signs", InvalidTable, wrong_tables(3))])


class PutTogether(Case):
    def test_joined(self):
        random = Random(470)
        squares = [drawn_square(random, size) for size in (2, 3, 4, 5)] + [field_of(2), adding(5, 3), adding(3, 2)]
        for one, other in product(squares, repeat=2):
            rows = self.run_it(joined_squares, square=one, other=other)
            m, n = len(one), len(other)
            for (s, t), (x, y) in product(product(range(m), range(n)), repeat=2):
                self.assertEqual(rows[s * n + t][x * n + y], one[s][x] * n + other[t][y])
            self.assertEqual([len(row) for row in rows], [m * n] * (m * n))
            self.gives(True, is_square, value=rows)
            a, b = len(swaps_by_words(one)), len(swaps_by_words(other))
            found = len(swaps_by_words(rows))
            self.gives(found, how_many_swaps, square=rows)
            self.assertEqual(found, ((2 * a + m * m) * (2 * b + n * n) - m * m * n * n) // 2)
            self.assertIs(is_quiet_square(rows), a == 0 and b == 0)

    def test_how_many_swaps(self):
        for square in some_squares() + all_squares(3) + all_squares(4)[::7]:
            self.gives(len(swaps_by_words(square)), how_many_swaps, square=square)
            self.assertEqual(len(swaps_of(square)), len(swaps_by_words(square)))

    def test_limit(self):
        with self.within_seconds(10):
            square = adding(24, 5)
            self.gives(len(swaps_by_words(square)), how_many_swaps, square=square)
            large = joined_squares(square, adding(2, 1))
            self.assertEqual(len(large), 48)
            self.gives(24 * 24 * 23 // 2, how_many_swaps, square=adding(24, 1))
            self.assertEqual(how_many_swaps(large), len(swaps_by_words(large)))

    def test_errors(self):
        self.refuses(joined_squares, {"square": THREE, "other": [[1, 0], [0, 1]]}, [
            SQUARE, ("other", InvalidSquare, wrong_squares())])
        self.refuses(how_many_swaps, {"square": THREE}, [SQUARE])


class QuietSquares(Case):
    def test_every_size(self):
        for size in range(2, 25):
            if size % 4 == 2:
                self.raises(Stuck, size, quiet_square, size=size)
                continue
            square = self.run_it(quiet_square, size=size)
            self.assertTrue(is_square_by_words(square))
            self.gives(True, is_square, value=square)
            self.assertEqual(len(square), size)
            self.assertEqual(swaps_by_words(square), [])
            self.gives(True, is_quiet_square, square=square)

    def test_somewhat_beyond(self):
        for size in (25, 28, 32, 36):
            square = quiet_square(size)
            self.assertTrue(is_square_by_words(square))
            self.assertEqual((len(square), swaps_by_words(square)), (size, []))

    def test_two_signs_have_none(self):
        for square in all_squares(2):
            self.gives(False, is_quiet_square, square=square)

    def test_errors(self):
        self.refuses(quiet_square, {"size": 9}, [("size", InvalidNumber, wrong_counts(2))])


if __name__ == "__main__":
    unittest.main()
