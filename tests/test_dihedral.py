"""[41] to [43]: antisymmetric maps and quiet boxes."""

import unittest
from itertools import combinations, permutations
from random import Random

from checkwright.dihedral import box_of, dihedral, dihedral_map, first_map, is_antisymmetric, quiet_box
from checkwright.errors import InvalidGroup, InvalidMember, InvalidNumber, InvalidTable, Stuck
from checkwright.grouped import commutes, group_of, is_box, is_group, is_quiet_box, passing_swaps
from tests.helper import Case, strange, wrong_counts, wrong_groups, wrong_members, wrong_tables
from tests.test_grouped import mirrored, quaternions, renamed, some_groups, symmetric

THREE = [[0, 1, 2], [1, 2, 0], [2, 0, 1]]
GROUP = ("group", InvalidGroup, wrong_groups())
PLACES = ("places", InvalidNumber, wrong_counts(2))


def to_eight():
    """All groups of at most eight members but for names, and some with other names."""
    random = Random(410)
    told = [[[0]]]
    told += [group_of(orders) for orders in [(2,), (3,), (4,), (2, 2), (5,), (6,), (7,), (8,), (2, 4), (2, 2, 2)]]
    told += [symmetric(3), mirrored(4), quaternions()]
    return told + [renamed(group, random) for group in told[3:]]


def antisymmetric_by_words(group, table):
    return all(group[x][table[y]] != group[y][table[x]] for x, y in combinations(range(len(group)), 2))


class Maps(Case):
    def test_all_tables(self):
        for group in to_eight():
            if len(group) > 6:
                continue
            first = None
            for table in permutations(range(len(group))):
                wanted = antisymmetric_by_words(group, table)
                self.assertIs(is_antisymmetric(group, list(table)), wanted)
                if wanted and first is None:
                    first = list(table)
            self.gives(first, first_map, group=group)

    def test_the_first_of_seven_and_eight(self):
        for group in to_eight():
            if len(group) < 7:
                continue
            found = self.run_it(first_map, group=group)
            if found is None:
                total = 0
                for member in range(8):
                    total = group[total][member]
                self.assertTrue(commutes(group) and total != 0)
                continue
            self.assertTrue(antisymmetric_by_words(group, found))
            ahead = (table for table in permutations(range(len(group))) if antisymmetric_by_words(group, table))
            self.assertEqual(list(next(ahead)), found)

    def test_commuting_ones(self):
        for orders in [(2,), (3,), (4,), (2, 2), (5,), (6,), (2, 3), (7,), (8,), (2, 4), (2, 2, 2)]:
            evens = [order for order in orders if order % 2 == 0]
            self.assertEqual(first_map(group_of(orders)) is None, len(evens) == 1)
        self.gives([0, 2, 1], first_map, group=THREE)
        self.gives([0], first_map, group=[[0]])
        self.gives(None, first_map, group=[[0, 1], [1, 0]])

    def test_eight_within_seconds(self):
        for group in [group_of((8,)), group_of((2, 4)), group_of((2, 2, 2)), mirrored(4), quaternions()]:
            with self.within_seconds(5):
                first_map(group)

    def test_somewhat_beyond(self):
        with self.within_seconds(5):
            for orders in [(10,), (12,), (24,)]:
                self.assertIsNone(first_map(group_of(orders)))
            self.assertTrue(antisymmetric_by_words(group_of((3, 3)), first_map(group_of((3, 3)))))

    def test_any_value(self):
        self.judges(is_antisymmetric, [[0, 2, 1], [1, 0, 2], [2, 1, 0]], [
            *wrong_tables(3), [0, 1, 2], [1, 2, 0], ([0, 2, 1],), [[0, 2, 1]]], group=THREE)
        self.judges(is_antisymmetric, [[0]], [*strange(), 0, [1], [0, 0], (0,), [False]], group=[[0]])

    def test_dihedral_map(self):
        for turns in range(3, 13):
            for shift in [*range(2 * turns + 2), 10 ** 29, 10 ** 29 - 10 ** 29 % turns]:
                wanted = [-turn % turns for turn in range(turns)]
                wanted += [turns + (turn + shift) % turns for turn in range(turns)]
                self.gives(wanted, dihedral_map, turns=turns, shift=shift)
                quiet = turns % 2 == 1 and shift % turns != 0
                self.assertIs(antisymmetric_by_words(mirrored(turns), wanted), quiet)
                self.assertIs(is_antisymmetric(dihedral(turns), wanted), quiet)

    def test_errors(self):
        self.refuses_first(is_antisymmetric, {"group": THREE, "value": [0, 2, 1]}, [GROUP])
        self.refuses(first_map, {"group": THREE}, [GROUP])
        self.refuses(dihedral_map, {"turns": 3, "shift": 0}, [
            ("turns", InvalidNumber, wrong_counts(3)), ("shift", InvalidNumber, wrong_counts(0))])


class BoxesOfMaps(Case):
    def test_tables(self):
        random = Random(420)
        for group in some_groups():
            table = random.sample(range(len(group)), len(group))
            for places in (2, 3, 7):
                tables = [list(range(len(group)))]
                for _ in range(places - 1):
                    tables.append([table[entry] for entry in tables[-1]])
                total = len(group) - 1
                told = {"group": group, "table": table, "places": places, "total": total}
                self.gives((group, tables, total), box_of, **told)
        turned = (THREE, [[0, 1, 2], [1, 2, 0], [2, 0, 1], [0, 1, 2]], 1)
        self.gives(turned, box_of, group=THREE, table=[1, 2, 0], places=4, total=1)

    def test_quiet_exactly_if_antisymmetric(self):
        for group in to_eight():
            if len(group) > 5:
                continue
            for table in permutations(range(len(group))):
                box = box_of(group, list(table), 4, 0)
                self.assertIs(is_quiet_box(box), antisymmetric_by_words(group, table))
        random = Random(421)
        for group in [symmetric(3), quaternions(), mirrored(5)]:
            found = first_map(group)
            for table in [found] + [random.sample(range(len(group)), len(group)) for _ in range(20)]:
                self.assertIs(is_quiet_box(box_of(group, table, 5, 1)), antisymmetric_by_words(group, table))

    def test_limit(self):
        table = dihedral_map(12, 1)
        with self.within_seconds(5):
            box = box_of(dihedral(12), table, 40, 23)
            self.assertTrue(is_box(box))
            self.assertEqual(len(box[1]), 40)
            quiet = box_of(dihedral(11), dihedral_map(11, 3), 40, 21)
            self.assertIs(is_quiet_box(quiet), True)
            self.assertIs(is_quiet_box(box), False)
        self.assertEqual(len(box_of(THREE, [0, 2, 1], 41, 0)[1]), 41)

    def test_errors(self):
        self.refuses(box_of, {"group": THREE, "table": [0, 1, 2], "places": 3, "total": 2}, [
            GROUP, ("table", InvalidTable, wrong_tables(3)), PLACES, ("total", InvalidMember, wrong_members(3))])


class EveryNumberOfSigns(Case):
    def check(self, size, places, total):
        box = self.run_it(quiet_box, size=size, places=places, total=total)
        self.assertIs(type(box), tuple)
        self.assertTrue(is_box(box))
        group, tables, found = box
        self.assertTrue(is_group(group))
        self.same((len(group), len(tables), found), (size, places, total))
        for place in range(places - 1):
            first, second = tables[place], tables[place + 1]
            for x, y in combinations(range(size), 2):
                self.assertNotEqual(group[first[x]][second[y]], group[first[y]][second[x]])
        self.gives(True, is_quiet_box, box=box)

    def test_every_size(self):
        for size in range(3, 25):
            for places, total in [(2, 0), (3, size - 1), (6, 1)]:
                self.check(size, places, total)

    def test_forty_places(self):
        for size in (22, 23, 24):
            with self.within_seconds(5):
                box = quiet_box(size, 40, 1)
                self.assertIs(is_quiet_box(box), True)
                self.assertEqual((len(box[0]), len(box[1]), box[2]), (size, 40, 1))

    def test_two_signs(self):
        for places, total in [(2, 0), (3, 1), (40, 0)]:
            size = 2
            self.raises(Stuck, size, quiet_box, size=size, places=places, total=total)
        pair = [[0, 1], [1, 0]]
        for first, second in [([0, 1], [0, 1]), ([0, 1], [1, 0]), ([1, 0], [1, 0])]:
            self.gives([(0, 1)], passing_swaps, box=(pair, [first, second], 0), place=0)

    def test_errors(self):
        for size in (3, 8, 10):
            self.refuses(quiet_box, {"size": size, "places": 2, "total": size - 1}, [
                ("size", InvalidNumber, wrong_counts(2)), PLACES, ("total", InvalidMember, wrong_members(size))])
        for places in wrong_counts(2):
            self.raises(InvalidNumber, places, quiet_box, size=2, places=places, total=0)
        for total in wrong_members(2):
            self.raises(InvalidMember, total, quiet_box, size=2, places=2, total=total)


if __name__ == "__main__":
    unittest.main()
