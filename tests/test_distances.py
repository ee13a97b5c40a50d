"""[60] and [61]: distances of numbers, and by what slips shift their sums."""

import unittest
from random import Random

from checkwright.distances import distance, how_many_at, nearest_right, shift_of, shifts, slips_by
from checkwright.errors import InvalidCode, InvalidMember, InvalidNumber, InvalidSlip, InvalidSystem
from checkwright.slips import passes
from tests.helper import (
    KINDS, REACHES, Case, Group, all_slips, shift_by_words, wrong_codes, wrong_counts, wrong_members, wrong_slip_kinds, wrong_slips,
    wrong_systems,
)

THREE = ((3,), [[0, 1, 2], [0, 2, 1], [1, 2, 0]], 1)
SYSTEM = ("system", InvalidSystem, wrong_systems())
CODE = ("code", InvalidCode, wrong_codes(3, 3))
KIND = ("kind", InvalidSlip, wrong_slip_kinds())


def small_systems(seed):
    random, told = Random(seed), []
    for orders, places in [((2,), 2), ((2,), 6), ((3,), 2), ((3,), 4), ((4,), 3), ((2, 2), 3), ((5,), 2), ((6,), 2), ((2, 3), 3)]:
        told.append((Group(orders), Group(orders).system(random, places)))
    return told


def apart(code, other):
    return sum(1 for sign, theirs in zip(code, other) if sign != theirs)


class Distances(Case):
    def test_against_all_numbers(self):
        random = Random(600)
        for group, system in small_systems(601):
            codes, right = group.codes(system), group.right_codes(system)
            wrong = [code for code in codes if code not in right]
            for code in random.sample(right, 2) + random.sample(wrong, 2):
                found = [apart(code, other) for other in right]
                for other in random.sample(codes, 3) + [code]:
                    self.gives(apart(code, other), distance, system=system, code=code, other=list(other))
                for many in range(len(code) + 3):
                    self.gives(found.count(many), how_many_at, system=system, code=code, many=many)
                self.gives(0, how_many_at, system=system, code=code, many=10 ** 30 - 1)
                nearest = [other for other, many in zip(right, found) if many == min(found)]
                self.gives(nearest, nearest_right, system=system, code=code)
                self.assertEqual(nearest == [code], code in right)
                self.assertEqual(len(nearest), 1 if code in right else len(code))

    def test_right_ones_lie_two_apart(self):
        for group, system in small_systems(602):
            for code in group.right_codes(system)[:5]:
                self.gives(1, how_many_at, system=system, code=code, many=0)
                self.gives(0, how_many_at, system=system, code=code, many=1)
                self.assertGreater(how_many_at(system, code, 2), 0)

    def test_forty_signs_and_places(self):
        for orders in [(40,), (2, 2, 10)]:
            group = Group(orders)
            system = group.system(Random(603), 40)
            code = [3] * 40
            with self.within_seconds():
                near = nearest_right(system, code)
                counts = [how_many_at(system, code, many) for many in range(41)]
                self.assertEqual(sum(counts), 40 ** 39)
                first = near[0]
                self.assertEqual(sum(how_many_at(system, first, many) for many in range(41)), 40 ** 39)
                self.gives([first], nearest_right, system=system, code=first)
            self.assertEqual(near, sorted(near))
            self.assertEqual([len(near), counts[0], counts[1]], [40, 0, 40])
            for other in near:
                self.assertEqual(group.sum_of(system, other), system[2])
                self.gives(1, distance, system=system, code=code, other=other)

    def test_errors(self):
        good = {"system": THREE, "code": [1, 1, 0]}
        self.refuses(distance, {**good, "other": [0, 1, 2]}, [SYSTEM, CODE, ("other", InvalidCode, wrong_codes(3, 3))])
        self.refuses(how_many_at, {**good, "many": 2}, [SYSTEM, CODE, ("many", InvalidNumber, wrong_counts(0))])
        self.refuses(nearest_right, good, [SYSTEM, CODE])


class Shifts(Case):
    def test_against_all_slips(self):
        for group, system in small_systems(610):
            for kind in KINDS:
                told = [[] for _ in range(group.size)]
                for slip in all_slips(group.size, len(system[1]), kind):
                    shift = shift_by_words(group, system, slip)
                    self.gives(shift, shift_of, system=system, slip=slip)
                    self.assertEqual(shift == 0, passes(system, slip))
                    self.assertEqual(shift_of(system, (*slip[:2], slip[3], slip[2])), group.neg(shift))
                    told[shift].append(slip)
                self.gives([len(slips) for slips in told], shifts, system=system, kind=kind)
                for member, slips in enumerate(told):
                    self.gives(slips, slips_by, system=system, kind=kind, member=member)
                if kind == "single":
                    self.gives([0] + [group.size * len(system[1])] * (group.size - 1), shifts, system=system, kind=kind)

    def test_without_any_slip(self):
        system = ((3,), [[0, 1, 2], [0, 1, 2]], 0)
        for kind in ("jump", "jumptwin"):
            self.gives([0, 0, 0], shifts, system=system, kind=kind)
            self.gives([], slips_by, system=system, kind=kind, member=1)

    def test_forty_signs_and_places(self):
        for orders in [(40,), (2, 2, 10)]:
            group = Group(orders)
            system = group.system(Random(611), 40)
            for kind in KINDS:
                with self.within_seconds():
                    many = shifts(system, kind)
                    self.assertEqual(sum(many), 40 * 39 * (40 - REACHES[kind]))
                    found = slips_by(system, kind, 7)
                self.assertEqual(len(found), many[7])
                self.assertEqual(found, sorted(found))
                self.assertTrue(all(shift_by_words(group, system, slip) == 7 for slip in found[::50]))

    def test_listed_up_to_two_thousand(self):
        up = list(range(20))
        told = ((20,), [up] * 100, 0)
        self.assertEqual(len(slips_by(told, "single", 3)), 2000)
        self.too_many(2020, slips_by, system=((20,), [up] * 101, 0), kind="single", member=3)
        up = list(range(23))
        self.assertEqual(len(slips_by(((23,), [up] * 86, 0), "single", 1)), 1978)
        self.too_many(2001, slips_by, system=((23,), [up] * 87, 0), kind="single", member=1)
        self.gives([], slips_by, system=((23,), [up] * 87, 0), kind="single", member=0)
        self.too_many(40 * 39 * 39, slips_by, system=((40,), [list(range(40))] * 40, 0), kind="swap", member=0)

    def test_errors(self):
        self.refuses(shift_of, {"system": THREE, "slip": ("swap", 1, 0, 2)}, [
            SYSTEM, ("slip", InvalidSlip, wrong_slips(3, 3))])
        self.refuses(shifts, {"system": THREE, "kind": "jump"}, [SYSTEM, KIND])
        self.refuses(slips_by, {"system": THREE, "kind": "jump", "member": 2}, [
            SYSTEM, KIND, ("member", InvalidMember, wrong_members(3))])


if __name__ == "__main__":
    unittest.main()
