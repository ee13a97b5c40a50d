"""[68] to [70]: right numbers that fit a pattern, counted, numbered and found one behind the other."""

import unittest
from bisect import bisect_left, bisect_right
from itertools import combinations, product
from random import Random

from checkwright.counting import (
    fits, how_many_right, is_pattern, issued, last_right, next_right, number_of, right_numbered, sums_of,
)
from checkwright.errors import InvalidCode, InvalidNumber, InvalidSystem, TooMany
from tests.helper import Case, Group, drawn_pattern, wrong_codes, wrong_counts, wrong_patterns, wrong_systems

THREE = ((3,), [[0, 1, 2], [0, 2, 1], [1, 2, 0]], 1)
SYSTEM = ("system", InvalidSystem, wrong_systems())
PATTERN = ("pattern", InvalidCode, wrong_patterns(3, 3))
CODE = ("code", InvalidCode, wrong_codes(3, 3))
NUMBER = ("number", InvalidNumber, wrong_counts(0))
GOOD = {"system": THREE, "pattern": [[0, 1], [0, 1, 2], [2]], "code": [1, 2, 0]}


def some_patterns(seed):
    """Groups, systems of them, and patterns with empty places, all signs, and any others."""
    random, told = Random(seed), []
    for orders, places in [((2,), 2), ((2,), 5), ((3,), 2), ((3,), 3), ((4,), 3), ((2, 2), 3), ((5,), 2), ((6,), 2), ((2, 3), 2), ((7,), 2)]:
        group = Group(orders)
        system = group.system(random, places)
        signs = list(range(group.size))
        told.append((group, system, [signs] * places))
        told.append((group, system, [[]] * places))
        told.append((group, system, [signs] * (places - 1) + [[]]))
        told.append((group, system, [[]] + [signs] * (places - 1)))
        told.append((group, system, [[random.randrange(group.size)] for _ in signs[:1] * places]))
        told.extend((group, system, drawn_pattern(random, group.size, places)) for _ in range(4))
    return told


def fitting(pattern):
    """All numbers that fit, in order."""
    return [list(code) for code in product(*pattern)]


class Patterns(Case):
    def test_is_pattern(self):
        every = [list(signs) for many in range(4) for signs in combinations(range(3), many)]
        right = [list(told) for told in product(every, repeat=3)]
        self.judges(is_pattern, right[::7] + [[[0, 1, 2]] * 3, [[]] * 3, [[0], [], [2]]], wrong_patterns(3, 3), system=THREE)
        self.refuses_first(is_pattern, {"system": THREE, "value": [[0], [1], [2]]}, [SYSTEM])

    def test_fits(self):
        for group, system, pattern in some_patterns(680):
            told = fitting(pattern)
            for code in group.codes(system):
                self.gives(code in told, fits, system=system, pattern=pattern, code=code)

    def test_sums(self):
        for group, system, pattern in some_patterns(681):
            sums = [group.sum_of(system, code) for code in fitting(pattern)]
            counts = [sums.count(member) for member in range(group.size)]
            self.gives(counts, sums_of, system=system, pattern=pattern)
            self.gives(counts[system[2]], how_many_right, system=system, pattern=pattern)
            if list(range(group.size)) in pattern:
                self.assertEqual(len(set(counts)), 1)
            if pattern == [list(range(group.size))] * len(pattern):
                self.assertEqual(counts[0], group.size ** (len(pattern) - 1))

    def test_errors(self):
        told = {"system": THREE, "pattern": GOOD["pattern"]}
        self.refuses(fits, GOOD, [SYSTEM, PATTERN, CODE])
        self.refuses(sums_of, told, [SYSTEM, PATTERN])
        self.refuses(how_many_right, told, [SYSTEM, PATTERN])


class Numbered(Case):
    def test_against_all_numbers(self):
        for group, system, pattern in some_patterns(690):
            right = [code for code in fitting(pattern) if group.sum_of(system, code) == system[2]]
            for number, code in enumerate(right):
                self.gives(code, right_numbered, system=system, pattern=pattern, number=number)
            for number in (len(right), len(right) + 1, 10 ** 30 - 1):
                self.gives(None, right_numbered, system=system, pattern=pattern, number=number)
            for code in group.codes(system):
                self.gives(bisect_left(right, code), number_of, system=system, pattern=pattern, code=code)

    def test_next_and_last(self):
        for group, system, pattern in some_patterns(700):
            right = [code for code in fitting(pattern) if group.sum_of(system, code) == system[2]]
            for code in group.codes(system):
                ahead, behind = right[:bisect_left(right, code)], right[bisect_right(right, code):]
                self.gives(behind[0] if behind else None, next_right, system=system, pattern=pattern, code=code)
                self.gives(ahead[-1] if ahead else None, last_right, system=system, pattern=pattern, code=code)
            for code in Random(701).sample(group.codes(system), 4):
                behind = right[bisect_right(right, code):]
                for many in (0, 1, 2, 5, 2000):
                    self.gives(behind[:many], issued, system=system, pattern=pattern, code=code, many=many)

    def test_two_thousand_at_once(self):
        group = Group((12,))
        system = group.system(Random(702), 5)
        pattern = [list(range(12))] * 5
        with self.within_seconds():
            found = issued(system, pattern, [3, 0, 0, 0, 0], 2000)
        self.assertEqual(len(found), 2000)
        self.assertEqual(found, sorted(found))
        self.assertTrue(all(group.sum_of(system, code) == system[2] for code in found))
        self.assertGreater(found[0], [3, 0, 0, 0, 0])
        first = number_of(system, pattern, found[0])
        self.assertEqual(number_of(system, pattern, found[-1]), first + 1999)
        for many in (2001, 10 ** 30 - 1):
            self.raises(TooMany, many, issued, system=system, pattern=pattern, code=[3, 0, 0, 0, 0], many=many)
            self.raises(TooMany, many, issued, **{**GOOD, "pattern": [[]] * 3, "many": many})

    def test_twenty_four_signs_and_places(self):
        random = Random(703)
        for orders in [(24,), (2, 12), (2, 2, 6)]:
            group = Group(orders)
            system = group.system(random, 24)
            every = [list(range(24))] * 24
            drawn = [sorted(random.sample(range(24), random.randrange(12, 24))) for _ in range(24)]
            with self.within_seconds():
                self.assertEqual(sums_of(system, every), [24 ** 23] * 24)
                counts = sums_of(system, drawn)
                size = 1
                for signs in drawn:
                    size *= len(signs)
                self.assertEqual(sum(counts), size)
                many = how_many_right(system, drawn)
                for pattern, total in ((every, 24 ** 23), (drawn, many)):
                    for number in (0, 1, 10 ** 25 + 7, total // 3, total - 1):
                        code = right_numbered(system, pattern, number)
                        self.assertEqual(group.sum_of(system, code), system[2])
                        self.assertTrue(fits(system, pattern, code))
                        self.assertEqual(number_of(system, pattern, code), number)
                        if number > 0:
                            ahead = last_right(system, pattern, code)
                            self.assertEqual(number_of(system, pattern, ahead), number - 1)
                            self.assertEqual(next_right(system, pattern, ahead), code)
                    self.assertIsNone(right_numbered(system, pattern, total))
                found = issued(system, drawn, [12] * 24, 2000)
            self.assertEqual(found, sorted(found))
            self.assertEqual(len({tuple(code) for code in found}), 2000)
            for code in found[::200]:
                self.assertTrue(fits(system, drawn, code) and group.sum_of(system, code) == system[2] and code > [12] * 24)

    def test_errors(self):
        self.refuses(right_numbered, {"system": THREE, "pattern": GOOD["pattern"], "number": 0}, [SYSTEM, PATTERN, NUMBER])
        for function in (number_of, next_right, last_right):
            self.refuses(function, GOOD, [SYSTEM, PATTERN, CODE])
        self.refuses(issued, {**GOOD, "many": 2000}, [SYSTEM, PATTERN, CODE, ("many", InvalidNumber, wrong_counts(0))])
        for name, kind, wrong in [("system", InvalidSystem, 3), ("pattern", InvalidCode, [[0], [1], [1, 1]]), ("code", InvalidCode, [3, 0, 0])]:
            self.raises(kind, wrong, issued, **{**GOOD, "many": 2001, name: wrong})


if __name__ == "__main__":
    unittest.main()
