"""[9] to [11]: a system at work."""

import unittest
from itertools import permutations
from random import Random

from checkwright.checking import (
    added_to, fixed_at, how_many_codes, off_by, put_together, reordered, set_right, sign_wanted, with_signs,
)
from checkwright.errors import (
    InvalidCode, InvalidMember, InvalidNumber, InvalidOrders, InvalidRow, InvalidSystem, InvalidTable, Stuck,
)
from tests.helper import (
    Case, Group, wrong_codes, wrong_members, wrong_places, wrong_systems, wrong_tables,
)

THREE = ((3,), [[0, 1, 2], [0, 2, 1], [1, 2, 0]], 1)
SYSTEM = ("system", InvalidSystem, wrong_systems())
PLACE = ("place", InvalidNumber, wrong_places(3))


def drawn(seed):
    """Small systems of several groups with their groups."""
    random = Random(seed)
    told = []
    for orders, places in [((2,), 2), ((2,), 4), ((3,), 2), ((3,), 3), ((2, 2), 2), ((2, 2), 3), ((4,), 3), ((2, 3), 3)]:
        told.extend([(Group(orders), Group(orders).system(random, places)) for _ in range(2)])
    return told


class WhatIsRight(Case):
    def test_off_by(self):
        for group, system in drawn(91):
            for code in group.codes(system):
                off = off_by(system, code)
                self.assertIn(off, range(group.size))
                self.assertEqual(group.add(system[2], off), group.sum_of(system, code))
        self.gives(2, off_by, system=((3,), [[0, 1, 2], [0, 1, 2]], 1), code=[0, 0])
        self.gives(0, off_by, system=((3,), [[0, 1, 2], [0, 1, 2]], 1), code=[2, 2])

    def test_the_one_sign_that_is_wanted(self):
        for group, system in drawn(92):
            for code in group.codes(system):
                for place in range(len(code)):
                    could = [code[:place] + [sign] + code[place + 1:] for sign in range(group.size)]
                    right = [one for one in could if group.sum_of(system, one) == system[2]]
                    self.assertEqual(len(right), 1)
                    self.assertEqual(sign_wanted(system, code, place), right[0][place])
                    self.assertEqual(set_right(system, code, place), right[0])
        self.gives(2, sign_wanted, system=((3,), [[0, 1, 2], [0, 1, 2]], 1), code=[1, 2], place=0)
        self.gives([2, 2], set_right, system=((3,), [[0, 1, 2], [0, 1, 2]], 1), code=[1, 2], place=0)
        self.gives([1, 0], set_right, system=((3,), [[0, 1, 2], [0, 1, 2]], 1), code=[1, 0], place=1)

    def test_how_many_codes(self):
        for group, system in drawn(93):
            self.gives(len(group.right_codes(system)), how_many_codes, system=system)
        self.gives(40 ** 39, how_many_codes, system=Group((40,)).system(Random(1), 40))

    def test_forty_signs_and_places(self):
        random = Random(94)
        for orders in [(40,), (2, 2, 10)]:
            group = Group(orders)
            system = group.system(random, 40)
            code = [random.randrange(40) for _ in range(40)]
            with self.within_seconds():
                for place in range(40):
                    right = self.run_it(set_right, system=system, code=code, place=place)
                    self.assertEqual(group.sum_of(system, right), system[2])
                    self.assertEqual(right[:place] + right[place + 1:], code[:place] + code[place + 1:])

    def test_errors(self):
        code = ("code", InvalidCode, wrong_codes(3, 3))
        self.refuses(off_by, {"system": THREE, "code": [0, 1, 2]}, [SYSTEM, code])
        for function in (sign_wanted, set_right):
            self.refuses(function, {"system": THREE, "code": [0, 1, 2], "place": 0}, [SYSTEM, code, PLACE])
            self.run_it(function, system=THREE, code=[0, 1, 2], place=2)
        self.refuses(how_many_codes, {"system": THREE}, [SYSTEM])


class TurnedAbout(Case):
    def test_with_signs(self):
        for group, system in drawn(101):
            for names in list(permutations(range(group.size)))[::7] + [tuple(range(group.size))]:
                named = self.run_it(with_signs, system=system, names=list(names))
                self.assertEqual((named[0], named[2]), (system[0], system[2]))
                for table, other in zip(system[1], named[1]):
                    self.assertEqual([other[names[sign]] for sign in range(group.size)], table)
        self.gives(((3,), [[1, 2, 0], [2, 0, 1]], 2), with_signs, system=((3,), [[0, 1, 2], [1, 2, 0]], 2), names=[2, 0, 1])

    def test_right_numbers_of_with_signs(self):
        group, system = Group((2, 2)), Group((2, 2)).system(Random(102), 3)
        for names in permutations(range(4)):
            named = with_signs(system, list(names))
            wanted = sorted([[names[sign] for sign in code] for code in group.right_codes(system)])
            self.assertEqual(group.right_codes(named), wanted)

    def test_reordered(self):
        for group, system in drawn(103):
            for places in permutations(range(len(system[1]))):
                turned = self.run_it(reordered, system=system, places=list(places))
                self.same(turned, (system[0], [system[1][place] for place in places], system[2]))
                wanted = sorted([[code[place] for place in places] for code in group.right_codes(system)])
                self.assertEqual(group.right_codes(turned), wanted)

    def test_added_to(self):
        for group, system in drawn(104):
            for place in range(len(system[1])):
                for member in range(group.size):
                    moved = self.run_it(added_to, system=system, place=place, member=member)
                    tables = [list(table) for table in system[1]]
                    tables[place] = [group.add(entry, member) for entry in tables[place]]
                    self.same(moved, (system[0], tables, group.add(system[2], member)))
            self.assertEqual(group.right_codes(moved), group.right_codes(system))

    def test_errors(self):
        self.refuses(with_signs, {"system": THREE, "names": [2, 0, 1]}, [SYSTEM, ("names", InvalidTable, wrong_tables(3))])
        self.refuses(with_signs, {"system": ((4,), [[0, 1, 2, 3]] * 3, 0), "names": [2, 0, 1, 3]}, [
            SYSTEM, ("names", InvalidTable, wrong_tables(4) + [[0, 1, 2]])])
        self.refuses(reordered, {"system": THREE, "places": [2, 0, 1]}, [SYSTEM, ("places", InvalidRow, wrong_tables(3))])
        self.refuses(reordered, {"system": ((3,), [[0, 1, 2]] * 4, 0), "places": [3, 2, 0, 1]}, [
            SYSTEM, ("places", InvalidRow, wrong_tables(4) + [[0, 1, 2]])])
        self.refuses(added_to, {"system": THREE, "place": 0, "member": 2}, [
            SYSTEM, PLACE, ("member", InvalidMember, wrong_members(3))])
        self.run_it(added_to, system=THREE, place=2, member=0)


class CutAndJoined(Case):
    def test_fixed_at(self):
        for group, system in drawn(111):
            if len(system[1]) == 2:
                continue
            right = group.right_codes(system)
            for place in range(len(system[1])):
                for sign in range(group.size):
                    cut = self.run_it(fixed_at, system=system, place=place, sign=sign)
                    self.assertEqual(cut[0], system[0])
                    self.assertEqual(cut[1], system[1][:place] + system[1][place + 1:])
                    wanted = [code[:place] + code[place + 1:] for code in right if code[place] == sign]
                    self.assertEqual(group.right_codes(cut), wanted)

    def test_put_together(self):
        told = drawn(112)
        for group, system in told:
            for _, other in told:
                if other[0] != system[0]:
                    self.raises(InvalidOrders, other[0], put_together, system=system, other=other)
                    continue
                joined = self.run_it(put_together, system=system, other=other)
                self.same(joined, (system[0], system[1] + other[1], group.add(system[2], other[2])))

    def test_parts_are_off_together(self):
        group, random = Group((2, 2)), Random(113)
        system, other = group.system(random, 2), group.system(random, 3)
        joined = put_together(system, other)
        for one in group.codes(system):
            for two in group.codes(other)[::3]:
                self.assertEqual(off_by(joined, one + two), group.add(off_by(system, one), off_by(other, two)))

    def test_a_system_with_itself(self):
        self.gives(((3,), THREE[1] + THREE[1], 2), put_together, system=THREE, other=THREE)

    def test_errors(self):
        self.refuses(fixed_at, {"system": THREE, "place": 2, "sign": 1}, [
            SYSTEM, PLACE, ("sign", InvalidNumber, wrong_places(3))])
        self.refuses(put_together, {"system": THREE, "other": THREE}, [SYSTEM, ("other", InvalidSystem, wrong_systems())])

    def test_another_group_of_the_same_size(self):
        pairs = [((4,), (2, 2)), ((2, 3), (6,)), ((2, 3), (3, 2)), ((3,), (2,))]
        for orders, others in pairs + [pair[::-1] for pair in pairs]:
            system, other = Group(orders).system(Random(1), 2), Group(others).system(Random(2), 3)
            self.raises(InvalidOrders, others, put_together, system=system, other=other)

    def test_stuck_behind_all_other_errors(self):
        two = ((4,), [[0, 1, 2, 3], [3, 2, 1, 0]], 1)
        for place in (0, 1):
            for sign in range(4):
                self.raises(Stuck, two, fixed_at, system=two, place=place, sign=sign)
        for place in wrong_places(2):
            self.raises(InvalidNumber, place, fixed_at, system=two, place=place, sign=0)
            self.raises(InvalidNumber, place, fixed_at, system=two, place=place, sign=None)
        for sign in wrong_places(4):
            self.raises(InvalidNumber, sign, fixed_at, system=two, place=1, sign=sign)


if __name__ == "__main__":
    unittest.main()
