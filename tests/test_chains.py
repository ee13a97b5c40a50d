"""[45], [46] and [49]: chains, what passes in them, and counts."""

import unittest
from itertools import combinations, product
from random import Random

from checkwright.chains import (
    how_many_right_lists, how_many_slip, is_chain, is_quiet_square, is_right_chain, sign_at, states_of, swaps_of,
    twins_of,
)
from checkwright.errors import InvalidCode, InvalidNumber, InvalidSquare, InvalidSystem
from tests.helper import Case, strange, wrong_counts, wrong_places, wrong_squares
from tests.test_squares import adding, all_squares, drawn_square, field_of, some_squares, swaps_by_words

THREE = [[2, 0, 1], [0, 1, 2], [1, 2, 0]]
CHAIN = (THREE, 2, 1)


def wrong_chains():
    return strange() + [
        (THREE, 0), (THREE, 0, 0, 0), [THREE, 0, 0], (THREE, 3, 0), (THREE, 0, 3), (THREE, -1, 0), (THREE, 0, -1),
        (THREE, True, 0), (THREE, 0, True), (THREE, False, 0), (THREE, None, 0), (THREE, 0, None), (THREE, [0], 0),
        (THREE, 0, [0]), (THREE, "0", 0), (0, 0, THREE), THREE, (THREE, 10 ** 29, 0),
    ] + [(bad, 0, 0) for bad in wrong_squares()]


def wrong_lists(size):
    """What is no list of signs, not empty."""
    return strange() + [
        [], 0, (0,), (0, 1), [size], [0, size], [0, -1], [0, True], [False], [0, None], [[0]], ["0"], {0: 0}, "01",
        [0, 10 ** 29],
    ]


SYSTEM = ("chain", InvalidSystem, wrong_chains())
CODE = ("code", InvalidCode, wrong_lists(3))
SQUARE = ("square", InvalidSquare, wrong_squares())


def states_by_words(chain, code):
    square, state, _ = chain
    states = [state]
    for sign in code:
        state = square[state][sign]
        states.append(state)
    return states


def some_chains(random):
    return [(square, random.randrange(len(square)), random.randrange(len(square))) for square in some_squares()]


class Chains(Case):
    def test_is_chain(self):
        good = [CHAIN, (THREE, 0, 0), (THREE, 2, 2), ([[0, 1], [1, 0]], 1, 0), (adding(24, 5), 23, 0)]
        self.judges(is_chain, good, wrong_chains())

    def test_against_all_lists(self):
        random = Random(450)
        for chain in some_chains(random):
            size = len(chain[0])
            for length in (1, 2, 3) if size < 6 else (1, 2):
                right = 0
                for told in product(range(size), repeat=length):
                    code = list(told)
                    states = states_by_words(chain, code)
                    self.assertEqual(states_of(chain, code), states)
                    self.assertIs(is_right_chain(chain, code), states[-1] == chain[2])
                    right += states[-1] == chain[2]
                self.gives(right, how_many_right_lists, chain=chain, length=length)
                self.assertEqual(right, size ** (length - 1))
            code = [random.randrange(size) for _ in range(12)]
            self.gives(states_by_words(chain, code), states_of, chain=chain, code=code)
            self.gives(states_by_words(chain, code)[-1] == chain[2], is_right_chain, chain=chain, code=code)

    def test_sign_at(self):
        random = Random(451)
        for chain in some_chains(random):
            size = len(chain[0])
            for length in (1, 2, 3, 7):
                code = [random.randrange(size) for _ in range(length)]
                for place in range(length):
                    found = [
                        sign for sign in range(size)
                        if states_by_words(chain, [*code[:place], sign, *code[place + 1:]])[-1] == chain[2]]
                    self.assertEqual(len(found), 1)
                    self.gives(found[0], sign_at, chain=chain, code=code, place=place)

    def test_hundred_signs(self):
        random = Random(452)
        chain = (adding(24, 7), 3, 17)
        code = [random.randrange(24) for _ in range(100)]
        with self.within_seconds(5):
            self.gives(states_by_words(chain, code), states_of, chain=chain, code=code)
            for place in (0, 50, 99):
                sign = sign_at(chain, code, place)
                self.assertIs(is_right_chain(chain, [*code[:place], sign, *code[place + 1:]]), True)

    def test_errors(self):
        for function in (states_of, is_right_chain):
            self.refuses(function, {"chain": CHAIN, "code": [0, 2, 1]}, [SYSTEM, CODE])
        self.refuses(sign_at, {"chain": CHAIN, "code": [0, 2, 1], "place": 2}, [
            SYSTEM, CODE, ("place", InvalidNumber, wrong_places(3))])


class WhatPasses(Case):
    def test_against_all_states(self):
        random = Random(460)
        squares = some_squares() + all_squares(2) + all_squares(3) + all_squares(4)[::11] + [drawn_square(random, 8)]
        for square in squares:
            swaps = swaps_by_words(square)
            self.gives(swaps, swaps_of, square=square)
            twins = [
                (s, x, y) for s in range(len(square)) for x, y in combinations(range(len(square)), 2)
                if square[square[s][x]][x] == square[square[s][y]][y]]
            self.gives(twins, twins_of, square=square)
            self.gives(swaps == [], is_quiet_square, square=square)

    def test_whatever_follows(self):
        for square in (drawn_square(Random(461), 4), adding(3, 1), [[1, 0, 2], [0, 2, 1], [2, 1, 0]]):
            size = len(square)
            swaps, twins = swaps_of(square), twins_of(square)
            for state, behind in product(range(size), repeat=2):
                for x, y in combinations(range(size), 2):
                    chain = (square, state, 0)
                    ends = [states_by_words(chain, [*two, behind])[-1] for two in [(x, y), (y, x), (x, x), (y, y)]]
                    self.assertIs((state, x, y) in swaps, ends[0] == ends[1])
                    self.assertIs((state, x, y) in twins, ends[2] == ends[3])

    def test_limit(self):
        with self.within_seconds(5):
            self.assertEqual(len(swaps_of(adding(24, 1))), 24 * 24 * 23 // 2)
            every = [(s, x, y) for s in range(24) for x, y in combinations(range(24), 2)]
            self.assertEqual(twins_of(adding(24, 23)), every)
            self.assertIs(is_quiet_square(field_of(4)), True)
            self.assertIs(is_quiet_square(adding(24, 5)), False)

    def test_errors(self):
        for function in (swaps_of, twins_of, is_quiet_square):
            self.refuses(function, {"square": THREE}, [SQUARE])


class Counts(Case):
    def slips_by_words(self, chain, length, place):
        """How many right lists have an exchange that passes at a place, by going through all lists."""
        square, _, end = chain
        many = 0
        for code in product(range(len(square)), repeat=length):
            x, y = code[place], code[place + 1]
            if x == y or states_by_words(chain, code)[-1] != end:
                continue
            turned = [*code[:place], y, x, *code[place + 2:]]
            many += states_by_words(chain, turned)[place + 2] == states_by_words(chain, code)[place + 2]
        return many

    def test_against_all_lists(self):
        random = Random(490)
        squares = [[[0, 1], [1, 0]], [[1, 0], [0, 1]], THREE, adding(3, 1), adding(3, 2), adding(4, 1), adding(4, 3)]
        squares += [drawn_square(random, size) for size in (3, 4, 4, 5)] + [all_squares(4)[at] for at in (100, 333)]
        for square in squares:
            size = len(square)
            for start, end in [(0, 0), (size - 1, 1)]:
                chain = (square, start, end)
                for length in (2, 3, 4, 5) if size < 4 else (2, 3, 4):
                    found = [self.slips_by_words(chain, length, place) for place in range(length - 1)]
                    for place, many in enumerate(found):
                        self.gives(many, how_many_slip, chain=chain, length=length, place=place)
                    self.assertLessEqual(len(set(found[1:-1])), 1)

    def test_hundred_signs(self):
        chain = (adding(24, 5), 3, 17)
        swaps = len(swaps_by_words(chain[0]))
        with self.within_seconds(5):
            self.gives(24 ** 99, how_many_right_lists, chain=chain, length=100)
            found = [how_many_slip(chain, 100, place) for place in (1, 50, 97)]
            self.assertEqual(found, [2 * swaps * 24 ** 96] * 3)
            starting = len([one for one in swaps_by_words(chain[0]) if one[0] == 3])
            self.gives(2 * starting * 24 ** 97, how_many_slip, chain=chain, length=100, place=0)
            ending = len([one for one in swaps_by_words(chain[0]) if chain[0][chain[0][one[0]][one[1]]][one[2]] == 17])
            self.gives(2 * ending * 24 ** 97, how_many_slip, chain=chain, length=100, place=98)
            self.gives(0, how_many_slip, chain=(field_of(4), 0, 0), length=100, place=50)

    def test_errors(self):
        self.refuses(how_many_slip, {"chain": CHAIN, "length": 4, "place": 2}, [
            SYSTEM, ("length", InvalidNumber, wrong_counts(2)), ("place", InvalidNumber, wrong_places(3))])
        for place in wrong_places(1) + [1]:
            self.raises(InvalidNumber, place, how_many_slip, chain=CHAIN, length=2, place=place)
        self.refuses(how_many_right_lists, {"chain": CHAIN, "length": 1}, [
            SYSTEM, ("length", InvalidNumber, wrong_counts(1))])


if __name__ == "__main__":
    unittest.main()
