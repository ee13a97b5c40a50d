"""[57] to [59]: gaps filled, numbers mended, and what is sure."""

import unittest
from itertools import product
from random import Random

from checkwright.errors import InvalidCode, InvalidNumber, InvalidSlip, InvalidSystem
from checkwright.mending import (
    could_be_meant, filling_numbered, fillings, how_many_fillings, is_mend, mends, sure_signs,
)
from tests.helper import (
    KINDS, Case, Group, all_slips, behind, strange, wrong_codes, wrong_counts, wrong_gaps, wrong_slip_kinds, wrong_slips,
    wrong_systems, wrong_unlike_kinds,
)

THREE = ((3,), [[0, 1, 2], [0, 2, 1], [1, 2, 0]], 1)
SYSTEM = ("system", InvalidSystem, wrong_systems())
CODE = ("code", InvalidCode, wrong_codes(3, 3))
GAPS = ("gaps", InvalidCode, wrong_gaps(3, 3))


def small_systems(seed):
    random, told = Random(seed), []
    for orders, places in [((2,), 2), ((2,), 5), ((3,), 2), ((3,), 3), ((4,), 3), ((2, 2), 3), ((5,), 2), ((6,), 2), ((2, 3), 2)]:
        group = Group(orders)
        told.append((group, group.system(random, places)))
        told.append((group, (orders, [list(range(group.size))] * places, random.randrange(group.size))))
    return told


class Gaps(Case):
    def check(self, system, gaps, right):
        told = [code for code in right if all(sign in (None, code[place]) for place, sign in enumerate(gaps))]
        self.gives(len(told), how_many_fillings, system=system, gaps=gaps)
        self.gives(told, fillings, system=system, gaps=gaps)
        for number, code in enumerate(told):
            self.gives(code, filling_numbered, system=system, gaps=gaps, number=number)
        for number in (len(told), len(told) + 1, 10 ** 30 - 1):
            self.gives(None, filling_numbered, system=system, gaps=gaps, number=number)
        return len(told)

    def test_against_all_numbers(self):
        for group, system in small_systems(570):
            right, places = group.right_codes(system), len(system[1])
            if group.size ** places > 64:
                continue
            for gaps in product([None, *range(group.size)], repeat=places):
                many = self.check(system, list(gaps), right)
                empty = gaps.count(None)
                if empty:
                    self.assertEqual(many, group.size ** (empty - 1))
                else:
                    self.assertIn(many, (0, 1))

    def test_listed_up_to_two_thousand(self):
        random = Random(571)
        group = Group((2,))
        system = group.system(random, 12)
        self.assertEqual(len(fillings(system, [None] * 11 + [1])), 1024)
        self.too_many(2048, fillings, system=system, gaps=[None] * 12)
        for orders, many in [((20, 10, 10), 2000), ((23, 29, 3), 2001)]:
            size = Group(orders).size
            table = list(range(size))
            told = (orders, [table[::-1], table, table], 7)
            if many <= 2000:
                found = fillings(told, [None, None, 5])
                self.assertEqual(len(found), 2000)
                self.assertEqual(found[1999], filling_numbered(told, [None, None, 5], 1999))
                self.assertEqual(found, sorted(found))
            else:
                self.too_many(2001, fillings, system=told, gaps=[None, None, 5])

    def test_forty_signs_and_places(self):
        random = Random(572)
        for orders in [(40,), (2, 2, 10)]:
            group = Group(orders)
            system = group.system(random, 40)
            gaps = [None] * 40
            self.gives(40 ** 39, how_many_fillings, system=system, gaps=gaps)
            self.too_many(40 ** 39, fillings, system=system, gaps=gaps)
            self.too_many(64000, fillings, system=system, gaps=[None] * 4 + [3] * 36)
            with self.within_seconds():
                found = fillings(system, [None] * 3 + [3] * 37)
                self.assertEqual(len(found), 1600)
            self.assertTrue(all(group.sum_of(system, code) == system[2] for code in found[::100]))
            for number in (0, 1, 40, 10 ** 29 + 41 * 40 ** 5 + 7):
                code = filling_numbered(system, gaps, number)
                self.assertEqual(group.sum_of(system, code), system[2])
                told = 0
                for sign in code[:-1]:
                    told = told * 40 + sign
                self.assertEqual(told, number)

    def test_errors(self):
        good = {"system": THREE, "gaps": [None, 1, None]}
        self.refuses(how_many_fillings, good, [SYSTEM, GAPS])
        self.refuses(fillings, good, [SYSTEM, GAPS])
        self.refuses(filling_numbered, {**good, "number": 2}, [SYSTEM, GAPS, ("number", InvalidNumber, wrong_counts(0))])


def mends_by_words(group, system, code, kind):
    """All right numbers and slips of a kind that make the number of them."""
    found = []
    for slip in all_slips(group.size, len(code), kind):
        for right in group.right_codes(system):
            if behind(right, slip) == code:
                found.append((slip, right))
    return sorted(found)


class OneSlip(Case):
    def test_against_all_slips(self):
        random = Random(580)
        for group, system in small_systems(581):
            codes = group.codes(system)
            for code in random.sample(codes, min(8, len(codes))):
                right = group.sum_of(system, code) == system[2]
                every = []
                for kind in KINDS:
                    told = mends_by_words(group, system, code, kind)
                    self.gives(told, mends, system=system, code=code, kind=kind)
                    every += told
                    if kind == "single":
                        places = [slip[1] for slip, _ in told]
                        self.assertEqual(places, [] if right else list(range(len(code))))
                for value in every:
                    self.gives(True, is_mend, system=system, code=code, value=value)

    def test_is_mend_goes_by_all(self):
        random = Random(582)
        for group, system in small_systems(583):
            if group.size ** len(system[1]) > 32:
                continue
            code = random.choice(group.codes(system))
            right = group.right_codes(system)
            for kind in KINDS:
                for slip in all_slips(group.size, len(code), kind):
                    for number in group.codes(system):
                        wanted = number in right and behind(number, slip) == code
                        self.assertIs(is_mend(system, code, (slip, number)), wanted)

    def test_is_mend_takes_any_value(self):
        code = [1, 0, 0]
        slip, right = ("single", 0, 0, 1), [0, 0, 0]
        wrong = strange() + [
            (slip, right, right), (slip,), [slip, right], (right, slip), (slip, tuple(right)), (slip, [0, 0]), (slip, [0, 0, False]),
            (slip, [0, 0, 3]), (slip, None), slip, right, (slip, [0, 0, 1]), (("single", 0, False, 1), right),
            (("single", 0, 0, True), right), (("single", False, 0, 1), right), (("single", 0, 1, 0), right),
            (("single", 1, 0, 1), right), (("twin", 0, 0, 1), right), (("single", 0, 2, 1), right), (list(slip), right),
        ] + [(bad, right) for bad in wrong_slips(3, 3)] + [(slip, bad) for bad in wrong_codes(3, 3)]
        self.judges(is_mend, [(slip, right)], wrong, system=THREE, code=code)
        self.judges(is_mend, [], wrong + [(slip, right)], system=((3,), THREE[1], 2), code=code)

    def test_forty_signs_and_places(self):
        random = Random(584)
        group = Group((2, 20))
        system = group.system(random, 40)
        code = [7] * 20 + random.choices(range(40), k=20)
        with self.within_seconds():
            for kind in KINDS:
                told = mends(system, code, kind)
                self.assertEqual(told, sorted(told))
                self.assertEqual(len(told) == 40, kind == "single")
                for slip, right in told[:5]:
                    self.assertEqual(slip[0], kind)
                    self.assertEqual(group.sum_of(system, right), system[2])
                    self.assertEqual(behind(right, slip), code)
        plain = ((2, 20), [list(range(40))] * 40, 0)
        zeros = [0] * 40
        self.assertEqual(len(mends(plain, zeros, "twin")), 3 * 39)
        self.gives([], mends, system=plain, code=zeros, kind="swap")

    def test_errors(self):
        good = {"system": THREE, "code": [1, 1, 0]}
        self.refuses(mends, {**good, "kind": "twin"}, [SYSTEM, CODE, ("kind", InvalidSlip, wrong_slip_kinds())])
        self.refuses_first(is_mend, {**good, "value": (("single", 0, 0, 1), [0, 1, 0])}, [SYSTEM, CODE])


class WhatIsSure(Case):
    def test_against_all_slips(self):
        random = Random(590)
        found = {"none": 0, "all": 0, "some": 0}
        for group, system in small_systems(591):
            codes = group.codes(system)
            for code in random.sample(codes, min(6, len(codes))):
                by_kind = {kind: mends_by_words(group, system, code, kind) for kind in KINDS}
                for many in (1, 2, 3, 5):
                    kinds = random.sample(KINDS, many)
                    right = sorted({tuple(number) for kind in kinds for _, number in by_kind[kind]})
                    self.gives([list(number) for number in right], could_be_meant, system=system, code=code, kinds=kinds)
                    if not right:
                        self.gives(None, sure_signs, system=system, code=code, kinds=kinds)
                        found["none"] += 1
                        continue
                    sure = [signs[0] if len(set(signs)) == 1 else None for signs in zip(*right)]
                    self.gives(sure, sure_signs, system=system, code=code, kinds=kinds)
                    found["all" if None not in sure else "some"] += 1
        self.assertGreater(min(found.values()), 20)

    def test_words(self):
        up = [0, 1, 2, 3, 4]
        system = ((5,), [up, [0, 2, 4, 1, 3], up], 0)
        code = [1, 1, 0]
        self.gives([[0, 1, 3]], could_be_meant, system=system, code=[1, 0, 3], kinds=["swap"])
        self.gives([0, 1, 3], sure_signs, system=system, code=[1, 0, 3], kinds=["swap"])
        self.gives([[0, 1, 3], [1, 3, 0]], could_be_meant, system=((5,), [up] * 3, 4), code=[1, 0, 3], kinds=["swap"])
        self.gives([], could_be_meant, system=system, code=code, kinds=["jump"])
        self.gives(None, sure_signs, system=system, code=code, kinds=["jump"])
        singles = [[1, 1, 2], [1, 2, 0], [3, 1, 0]]
        self.gives(singles, could_be_meant, system=system, code=code, kinds=["single", "jump"])
        self.gives([None, None, None], sure_signs, system=system, code=code, kinds=["jump", "single"])

    def test_forty_signs_and_places(self):
        group = Group((40,))
        system = group.system(Random(592), 40)
        code = [7] * 40
        with self.within_seconds():
            told = could_be_meant(system, code, KINDS)
            sure = sure_signs(system, code, KINDS[::-1])
        self.assertEqual(told, sorted(told))
        for sign, signs in zip(sure, zip(*told), strict=True):
            self.assertEqual(sign, signs[0] if len(set(signs)) == 1 else None)

    def test_errors(self):
        for function in (could_be_meant, sure_signs):
            self.refuses(function, {"system": THREE, "code": [1, 1, 0], "kinds": ["twin", "single"]}, [
                SYSTEM, CODE, ("kinds", InvalidSlip, wrong_unlike_kinds())])


if __name__ == "__main__":
    unittest.main()
