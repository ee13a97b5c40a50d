"""[50] to [53]: which slips pass, and which can befall a number."""

import unittest
from itertools import permutations
from random import Random

from checkwright.errors import InvalidCode, InvalidNumber, InvalidSlip, InvalidSystem
from checkwright.quiet import passing_counts
from checkwright.slips import (
    caught, counts, first_passing, own_slips, passes, passing, possible, unseen, worst_place,
)
from checkwright.systems import can_befall, is_slip
from tests.helper import (
    KINDS, REACHES, Case, Group, all_slips, behind, shift_by_words, wrong_codes, wrong_places, wrong_slip_kinds, wrong_slips,
    wrong_systems,
)

THREE = ((3,), [[0, 1, 2], [0, 2, 1], [1, 2, 0]], 1)
SYSTEM = ("system", InvalidSystem, wrong_systems())
KIND = ("kind", InvalidSlip, wrong_slip_kinds())
CODE = ("code", InvalidCode, wrong_codes(3, 3))


def passes_by_words(group, system, slip):
    """Whether the sum of some number, which the slip can befall, is the same behind it."""
    return shift_by_words(group, system, slip) == 0


def some_systems():
    random = Random(500)
    told = []
    for orders in [(2,), (3,), (4,), (2, 2), (5,), (6,), (2, 3), (2, 2, 2), (10,)]:
        group = Group(orders)
        told.extend((group, group.system(random, places)) for places in (2, 3, 5))
        up, down = list(range(group.size)), [group.neg(member) for member in range(group.size)]
        told.append((group, (orders, [up] * 4, 1)))
        told.append((group, (orders, [up, down, up, down], 0)))
        told.append((group, (orders, [up, group.table(random), down], 0)))
    return told


class WhichPass(Case):
    def test_against_all_numbers(self):
        for orders in [(2,), (3,), (4,), (2, 2)]:
            group = Group(orders)
            system = group.system(Random(501), 3)
            codes = group.codes(system)
            for kind in KINDS:
                for slip in all_slips(group.size, 3, kind):
                    found = set()
                    for code in codes:
                        turned = behind(code, slip)
                        if turned is not None:
                            found.add(group.sum_of(system, code) == group.sum_of(system, turned))
                    self.assertEqual(len(found), 1)
                    self.gives(found.pop(), passes, system=system, slip=slip)

    def test_all_tables(self):
        group = Group((4,))
        for second in permutations(range(4)):
            system = ((4,), [[2, 0, 1, 3], list(second)], 3)
            for kind in KINDS:
                for slip in all_slips(group.size, 2, kind):
                    self.assertIs(passes(system, slip), passes_by_words(group, system, slip))

    def test_slips_and_slips_back(self):
        for group, system in some_systems():
            for kind in KINDS:
                for slip in all_slips(group.size, len(system[1]), kind):
                    wanted = passes_by_words(group, system, slip)
                    self.assertIs(passes(system, slip), wanted)
                    self.assertIs(passes(system, (*slip[:2], slip[3], slip[2])), wanted)
                    if kind == "single":
                        self.assertIs(wanted, False)

    def test_errors(self):
        self.refuses(passes, {"system": THREE, "slip": ("swap", 1, 0, 2)}, [
            SYSTEM, ("slip", InvalidSlip, wrong_slips(3, 3))])


class AllOfAKind(Case):
    def test_against_all_slips(self):
        for group, system in some_systems():
            places = len(system[1])
            swaps_and_twins = passing_counts(system)
            for kind in KINDS:
                slips = all_slips(group.size, places, kind)
                told = [slip for slip in slips if passes_by_words(group, system, slip)]
                found = []
                for place in range(places - REACHES[kind]):
                    here = [slip for slip in told if slip[1] == place]
                    self.gives(here, passing, system=system, kind=kind, place=place)
                    found.append(len(here))
                self.gives(found, counts, system=system, kind=kind)
                self.gives(len(slips), possible, system=system, kind=kind)
                if kind in ("swap", "twin"):
                    at = ["swap", "twin"].index(kind)
                    self.assertEqual(found, [2 * pair[at] for pair in swaps_and_twins])

    def test_too_few_places(self):
        system = ((3,), [[0, 1, 2], [0, 1, 2]], 0)
        for kind in ("jump", "jumptwin"):
            self.gives([], counts, system=system, kind=kind)
            self.gives(0, possible, system=system, kind=kind)
            for place in (0, 1, -1):
                self.raises(InvalidNumber, place, passing, system=system, kind=kind, place=place)

    def test_words(self):
        up = list(range(10))
        system = ((10,), [up, up, [-one % 10 for one in up]], 0)
        self.gives([90, 10], counts, system=system, kind="swap")
        self.gives([10, 90], counts, system=system, kind="twin")
        self.gives([10], counts, system=system, kind="jump")
        self.gives([90], counts, system=system, kind="jumptwin")
        self.gives([0, 0, 0], counts, system=system, kind="single")
        halves = [("twin", 0, sign, (sign + 5) % 10) for sign in range(10)]
        self.gives(halves, passing, system=system, kind="twin", place=0)
        self.gives(270, possible, system=system, kind="single")
        self.gives(90, possible, system=system, kind="jumptwin")

    def test_forty_signs_and_places(self):
        random = Random(510)
        for orders in [(40,), (2, 2, 10)]:
            group = Group(orders)
            system = group.system(random, 40)
            with self.within_seconds():
                for kind in KINDS:
                    found = counts(system, kind)
                    self.assertEqual(len(found), 40 - REACHES[kind])
                    place = len(found) - 1
                    here = passing(system, kind, place)
                    self.assertEqual(len(here), found[place])
                    self.assertEqual(possible(system, kind), 1560 * len(found))
                    first_passing(system, kind)
                    worst_place(system, kind)
                caught(system)
            last = [slip for slip in all_slips(group.size, 40, "jump") if slip[1] == 37]
            wanted = [slip for slip in last if passes_by_words(group, system, slip)]
            self.gives(wanted, passing, system=system, kind="jump", place=37)

    def test_errors(self):
        for kind, reach in REACHES.items():
            self.refuses(passing, {"system": THREE, "kind": kind, "place": 2 - reach}, [
                SYSTEM, KIND, ("place", InvalidNumber, wrong_places(3 - reach))])
        for function in (counts, possible):
            self.refuses(function, {"system": THREE, "kind": "jump"}, [SYSTEM, KIND])


class WhatIsCaught(Case):
    def test_against_all_slips(self):
        for group, system in some_systems():
            places = len(system[1])
            fine = []
            for kind in KINDS:
                told = [slip for slip in all_slips(group.size, places, kind) if passes_by_words(group, system, slip)]
                found = [len([slip for slip in told if slip[1] == place]) for place in range(places)]
                if not told:
                    fine.append(kind)
                self.gives(told[0] if told else None, first_passing, system=system, kind=kind)
                self.gives(found.index(max(found)) if told else None, worst_place, system=system, kind=kind)
            self.gives(fine, caught, system=system)

    def test_words(self):
        up, down, other = [0, 1, 2, 3, 4], [0, 4, 3, 2, 1], [0, 2, 4, 1, 3]
        quiet = ((5,), [up, down, up, down], 0)
        self.gives(["single", "swap", "jumptwin"], caught, system=quiet)
        self.gives(["single", "swap", "jump", "twin", "jumptwin"], caught, system=((5,), [up, other], 3))
        self.gives(["single", "swap", "jump", "jumptwin"], caught, system=((5,), [up, down], 3))
        self.gives(["single", "jump", "twin", "jumptwin"], caught, system=((5,), [down, down], 3))
        self.gives(0, worst_place, system=quiet, kind="twin")
        self.gives(None, worst_place, system=quiet, kind="single")
        self.gives(1, worst_place, system=((5,), [up, down, down, up], 0), kind="swap")
        self.gives(("swap", 1, 0, 1), first_passing, system=((5,), [up, down, down, up], 0), kind="swap")
        self.gives(("jumptwin", 0, 0, 1), first_passing, system=((5,), [up, up, down, up], 0), kind="jumptwin")
        self.gives(None, first_passing, system=((5,), [up, up], 0), kind="jumptwin")
        self.gives(None, worst_place, system=((5,), [up, up], 0), kind="jump")

    def test_the_worst_is_not_the_first(self):
        up = list(range(6))
        near = [0, 1, 2, 3, 5, 4]
        system = ((6,), [up, [-one % 6 for one in up], near, near, near], 0)
        found = counts(system, "swap")
        self.assertTrue(0 < found[0] < found[2] == found[3])
        self.gives(2, worst_place, system=system, kind="swap")
        self.gives(("swap", 0, 0, 3), first_passing, system=system, kind="swap")

    def test_errors(self):
        self.refuses(caught, {"system": THREE}, [SYSTEM])
        for function in (worst_place, first_passing):
            self.refuses(function, {"system": THREE, "kind": "twin"}, [SYSTEM, KIND])


class OwnSlips(Case):
    def check(self, group, system, code):
        every = []
        for kind in KINDS:
            found = [slip for slip in all_slips(group.size, len(code), kind) if behind(code, slip) is not None]
            self.gives(found, own_slips, system=system, code=code, kind=kind)
            for slip in found:
                self.assertTrue(is_slip(system, slip) and can_befall(system, code, slip))
            every.extend(found)
        total = group.sum_of(system, code)
        passed = sorted(slip for slip in every if group.sum_of(system, behind(code, slip)) == total)
        self.gives(passed, unseen, system=system, code=code)

    def test_against_all_slips(self):
        random = Random(530)
        for group, system in some_systems():
            places = len(system[1])
            if group.size ** places <= 64:
                for code in group.codes(system):
                    self.check(group, system, code)
            for _ in range(4):
                few = random.sample(range(group.size), 2)
                self.check(group, system, [random.choice(few) for _ in range(places)])

    def test_words(self):
        system = ((4,), [[0, 1, 2, 3]] * 3, 2)
        self.gives([("jump", 0, 3, 1), ("swap", 0, 3, 2), ("swap", 1, 2, 1)], unseen, system=system, code=[3, 2, 1])
        self.gives([("jumptwin", 0, 1, 3), ("twin", 0, 1, 3), ("twin", 1, 1, 3)], unseen, system=system, code=[1, 1, 1])
        self.gives([("jumptwin", 0, 2, 0), ("swap", 0, 2, 1), ("swap", 1, 1, 2)], unseen, system=system, code=[2, 1, 2])
        self.gives([], own_slips, system=system, code=[1, 1, 1], kind="swap")
        self.gives([("jumptwin", 0, 1, 0), ("jumptwin", 0, 1, 2), ("jumptwin", 0, 1, 3)], own_slips, system=system,
                   code=[1, 0, 1], kind="jumptwin")

    def test_forty_signs_and_places(self):
        group = Group((40,))
        system = group.system(Random(531), 40)
        code = [sign // 2 for sign in range(40)]
        with self.within_seconds():
            self.assertEqual(len(own_slips(system, code, "single")), 39 * 40)
            self.assertEqual(len(own_slips(system, code, "twin")), 39 * 20)
            self.assertEqual(len(own_slips(system, code, "swap")), 19)
            found = unseen(system, code)
        every = [slip for kind in KINDS for slip in own_slips(system, code, kind)]
        self.assertEqual(found, sorted(slip for slip in every if passes_by_words(group, system, slip)))

    def test_errors(self):
        self.refuses(own_slips, {"system": THREE, "code": [1, 1, 0], "kind": "twin"}, [SYSTEM, CODE, KIND])
        self.refuses(unseen, {"system": THREE, "code": [1, 1, 0]}, [SYSTEM, CODE])


if __name__ == "__main__":
    unittest.main()
