"""[71] to [73]: safe numbers, which no slip of some kinds turns into another right one."""

import unittest
from bisect import bisect_right
from fractions import Fraction
from itertools import product
from random import Random

from checkwright.errors import InvalidCode, InvalidNumber, InvalidSlip, InvalidSystem
from checkwright.quiet import quiet_system
from checkwright.safe import cost_of_safety, how_many_safe, is_safe, next_safe, safe_numbered
from tests.helper import (
    Case, Group, all_slips, behind, drawn_pattern, wrong_codes, wrong_counts, wrong_kind_lists, wrong_patterns, wrong_systems,
)

THREE = ((3,), [[0, 1, 2], [0, 2, 1], [1, 2, 0]], 1)
SYSTEM = ("system", InvalidSystem, wrong_systems())
KINDS = ("kinds", InvalidSlip, wrong_kind_lists("swap", "twin"))
PATTERN = ("pattern", InvalidCode, wrong_patterns(3, 3))
CODE = ("code", InvalidCode, wrong_codes(3, 3))
KIND_LISTS = (["swap"], ["twin"], ["swap", "twin"])


def small_systems(seed):
    random, told = Random(seed), []
    for orders, places in [((2,), 2), ((2,), 5), ((3,), 2), ((3,), 3), ((3,), 4), ((4,), 3), ((2, 2), 3), ((5,), 2), ((6,), 2), ((2, 3), 3)]:
        group = Group(orders)
        up, down = list(range(group.size)), [group.neg(member) for member in range(group.size)]
        told.append((group, group.system(random, places)))
        told.append((group, (orders, [up] * places, random.randrange(group.size))))
        told.append((group, (orders, ([up, down] * places)[:places], random.randrange(group.size))))
    return told


def safe_by_words(group, system, kinds):
    """All right numbers that no slip of the kinds turns into a right one, in order."""
    right = group.right_codes(system)
    slips = [slip for kind in kinds for slip in all_slips(group.size, len(system[1]), kind)]
    return [code for code in right if not any(behind(code, slip) in right for slip in slips)]


class Safe(Case):
    def test_against_all_slips(self):
        random, found = Random(710), set()
        for group, system in small_systems(711):
            codes, places = group.codes(system), len(system[1])
            signs = list(range(group.size))
            for kinds in KIND_LISTS:
                safe = safe_by_words(group, system, kinds)
                for code in codes:
                    self.gives(code in safe, is_safe, system=system, kinds=kinds, code=code)
                share = Fraction(len(safe), group.size ** (places - 1))
                self.gives((share.numerator, share.denominator), cost_of_safety, system=system, kinds=kinds)
                found.add(share)
                patterns = [[signs] * places, [[]] * places, drawn_pattern(random, group.size, places)]
                for pattern in patterns + [drawn_pattern(random, group.size, places)]:
                    fitting = [code for code in safe if list(code) in [list(one) for one in product(*pattern)]]
                    self.gives(len(fitting), how_many_safe, system=system, kinds=kinds, pattern=pattern)
                    for number, code in enumerate(fitting):
                        self.gives(code, safe_numbered, system=system, kinds=kinds, pattern=pattern, number=number)
                    for number in (len(fitting), 10 ** 30 - 1):
                        self.gives(None, safe_numbered, system=system, kinds=kinds, pattern=pattern, number=number)
                    for code in random.sample(codes, min(len(codes), 12)) + [codes[0], codes[-1]]:
                        later = fitting[bisect_right(fitting, code):]
                        self.gives(later[0] if later else None, next_safe, system=system, kinds=kinds, pattern=pattern, code=code)
        self.assertTrue({Fraction(0), Fraction(1)} < found)

    def test_quiet_systems(self):
        for orders in [(3,), (5,), (2, 2), (9,), (2, 4), (11,)]:
            size = Group(orders).size
            system = quiet_system(orders, 6)
            every = [list(range(size))] * 6
            self.gives(size ** 5, how_many_safe, system=system, kinds=["swap"], pattern=every)
            self.gives((1, 1), cost_of_safety, system=system, kinds=["swap"])

    def test_twelve_signs_and_sixteen_places(self):
        random = Random(712)
        for orders in [(12,), (2, 6), (2, 2, 3)]:
            group = Group(orders)
            system = (orders, group.system(random, 16)[1], 5)
            pattern = [sorted(random.sample(range(12), 9)) for _ in range(16)]
            for kinds in KIND_LISTS:
                slips = [slip for kind in kinds for slip in all_slips(12, 16, kind)]
                with self.within_seconds():
                    many = how_many_safe(system, kinds, pattern)
                    share = cost_of_safety(system, kinds)
                    told = [safe_numbered(system, kinds, pattern, number) for number in (0, many // 2, many - 1)]
                    for at, code in zip((0, many // 2, many - 1), told):
                        self.assertIs(is_safe(system, kinds, code), True)
                        later = safe_numbered(system, kinds, pattern, at + 1)
                        self.assertEqual(next_safe(system, kinds, pattern, code), later)
                self.assertGreater(many, 1000)
                self.assertEqual(Fraction(*share).denominator, share[1])
                self.assertLess(share[0], share[1])
                self.assertIsNone(safe_numbered(system, kinds, pattern, many))
                for code in told:
                    self.assertTrue(all(sign in signs for sign, signs in zip(code, pattern)))
                    turned = [behind(code, slip) for slip in slips]
                    self.assertEqual(group.sum_of(system, code), 5)
                    self.assertFalse(any(other is not None and group.sum_of(system, other) == 5 for other in turned))

    def test_errors(self):
        good = {"system": THREE, "kinds": ["swap"]}
        pattern = {**good, "pattern": [[0, 1], [0, 1, 2], [2]]}
        self.refuses(is_safe, {**good, "code": [1, 2, 0]}, [SYSTEM, KINDS, CODE])
        self.refuses(how_many_safe, pattern, [SYSTEM, KINDS, PATTERN])
        self.refuses(safe_numbered, {**pattern, "number": 0}, [SYSTEM, KINDS, PATTERN, ("number", InvalidNumber, wrong_counts(0))])
        self.refuses(next_safe, {**pattern, "code": [1, 2, 0]}, [SYSTEM, KINDS, PATTERN, CODE])
        self.refuses(cost_of_safety, good, [SYSTEM, KINDS])


if __name__ == "__main__":
    unittest.main()
