"""[38] to [40]: groups told by a table, boxes, and exchanges in them."""

import unittest
from functools import reduce
from itertools import combinations, permutations, product
from random import Random

from checkwright.dihedral import dihedral
from checkwright.errors import InvalidCode, InvalidGroup, InvalidMember, InvalidNumber, InvalidOrders, InvalidSystem
from checkwright.grouped import (
    commutes, group_of, inverse, is_box, is_group, is_quiet_box, is_right_box, joined, passing_swaps, passing_twins,
    product_of, sign_for,
)
from tests.helper import (
    Case, Group, strange, wrong_codes, wrong_counts, wrong_groups, wrong_members, wrong_orders, wrong_places,
    wrong_tables,
)

ORDERS = ("orders", InvalidOrders, wrong_orders())
GROUP = ("group", InvalidGroup, wrong_groups())
THREE = [[0, 1, 2], [1, 2, 0], [2, 0, 1]]
BOX = (THREE, [[0, 1, 2], [0, 2, 1], [1, 2, 0]], 2)


def by_mapping(elements, times):
    """The group of some things, the one first, that are multiplied by a function."""
    at = {one: place for place, one in enumerate(elements)}
    return [[at[times(one, two)] for two in elements] for one in elements]


def symmetric(many):
    """The group of all ways to order so many things."""
    ways = list(permutations(range(many)))
    return by_mapping(ways, lambda one, two: tuple(one[two[at]] for at in range(many)))


def quaternions():
    """The group of eight members 1, -1, i, -i, j, -j, k, -k."""
    units = {
        (0, 0): (0, 1), (1, 1): (0, -1), (2, 2): (0, -1), (3, 3): (0, -1),
        (1, 2): (3, 1), (2, 3): (1, 1), (3, 1): (2, 1), (2, 1): (3, -1), (3, 2): (1, -1), (1, 3): (2, -1),
    }
    for unit in (1, 2, 3):
        units[(0, unit)] = units[(unit, 0)] = (unit, 1)

    def times(one, two):
        unit, sign = units[(one[0], two[0])]
        return (unit, sign * one[1] * two[1])

    return by_mapping([(unit, sign) for unit in range(4) for sign in (1, -1)], times)


def mirrored(turns):
    """The dihedral group, by what its members do to the numbers modulo turns."""
    ways = [tuple((at + turn) % turns for at in range(turns)) for turn in range(turns)]
    ways += [tuple((turn - at) % turns for at in range(turns)) for turn in range(turns)]
    return by_mapping(ways, lambda one, two: tuple(one[two[at]] for at in range(turns)))


def renamed(group, random):
    """The same group with other names of its members, 0 apart."""
    names = [0] + random.sample(range(1, len(group)), len(group) - 1)
    told = [[0] * len(group) for _ in group]
    for one, two in product(range(len(group)), repeat=2):
        told[names[one]][names[two]] = names[group[one][two]]
    return told


def is_group_by_words(rows):
    members = range(len(rows))
    if any(rows[0][one] != one or rows[one][0] != one for one in members):
        return False
    if any(rows[rows[x][y]][z] != rows[x][rows[y][z]] for x, y, z in product(members, repeat=3)):
        return False
    return all(any(rows[x][y] == 0 == rows[y][x] for y in members) for x in members)


def some_groups():
    random = Random(380)
    told = [[[0]]]
    for orders in [(2,), (3,), (4,), (2, 2), (5,), (2, 3), (2, 2, 2), (3, 3)]:
        group = Group(orders)
        told.append([[group.add(x, y) for y in range(group.size)] for x in range(group.size)])
    told += [symmetric(3), mirrored(4), mirrored(5), quaternions()]
    return told + [renamed(group, random) for group in told[3:]]


def drawn_box(group, random, places):
    tables = [random.sample(range(len(group)), len(group)) for _ in range(places)]
    return (group, tables, random.randrange(len(group)))


def times(group, members):
    return reduce(lambda one, two: group[one][two], members, 0)


def product_by_words(box, code):
    return times(box[0], [table[sign] for table, sign in zip(box[1], code)])


class Groups(Case):
    def test_every_small_table(self):
        for size in (1, 2, 3):
            found = []
            for told in product(range(size), repeat=size * size):
                rows = [list(told[at:at + size]) for at in range(0, size * size, size)]
                self.assertIs(is_group(rows), is_group_by_words(rows))
                if is_group(rows):
                    found.append(rows)
            self.assertEqual(len(found), 1)
        found = 0
        for told in product(range(4), repeat=9):
            rows = [[0, 1, 2, 3], [1, *told[:3]], [2, *told[3:6]], [3, *told[6:]]]
            if is_group(rows):
                self.assertTrue(is_group_by_words(rows))
                found += 1
        self.assertEqual(found, 4)  # three cyclic ones and the other one

    def test_one_entry_alone(self):
        for group in some_groups() + [mirrored(12)]:
            self.gives(True, is_group, value=group)
            members = range(len(group))
            entries = list(product(members, repeat=2))
            for x, y in entries if len(group) < 9 else Random(381).sample(entries, 40):
                for other in members if len(group) < 9 else [0, 1, len(group) - 1]:
                    if other != group[x][y]:
                        rows = [list(row) for row in group]
                        rows[x][y] = other
                        self.assertIs(is_group(rows), False)

    def test_one_rule_alone(self):
        steps = [[0, 1, 2, 3, 4], [1, 0, 3, 4, 2], [2, 4, 0, 1, 3], [3, 2, 4, 0, 1], [4, 3, 1, 2, 0]]
        self.assertTrue(all(row[at] == 0 for at, row in enumerate(steps)))  # all have inverses, and each comes once
        self.gives(False, is_group, value=steps)
        lost = [[0, 1, 2], [1, 1, 1], [2, 1, 1]]  # put together either way, but without inverses
        self.assertTrue(all(lost[lost[x][y]][z] == lost[x][lost[y][z]] for x, y, z in product(range(3), repeat=3)))
        self.gives(False, is_group, value=lost)
        shifted = [[1, 0], [0, 1]]  # a group in which 1 is the one
        self.gives(False, is_group, value=shifted)

    def test_any_value(self):
        self.judges(is_group, [[[0]], THREE, [[0, 1], [1, 0]], quaternions()], wrong_groups())

    def test_group_of(self):
        for orders in [(2,), (3,), (4,), (2, 2), (2, 5), (10,), (3, 4), (24,), (2, 2, 6)]:
            group = Group(orders)
            rows = [[group.add(x, y) for y in range(group.size)] for x in range(group.size)]
            self.gives(rows, group_of, orders=orders)
            self.assertTrue(is_group(rows))
        self.refuses(group_of, {"orders": (2, 3)}, [ORDERS])

    def test_dihedral(self):
        for turns in range(3, 13):
            told = [[0] * 2 * turns for _ in range(2 * turns)]
            for i, j in product(range(turns), repeat=2):
                told[i][j] = (i + j) % turns
                told[i][turns + j] = turns + (i + j) % turns
                told[turns + i][j] = turns + (i - j) % turns
                told[turns + i][turns + j] = (i - j) % turns
            self.gives(told, dihedral, turns=turns)
            self.assertEqual(told, mirrored(turns))
            self.gives(True, is_group, value=told)
            self.gives(False, commutes, group=told)
        self.refuses(dihedral, {"turns": 3}, [("turns", InvalidNumber, wrong_counts(3))])

    def test_joined(self):
        groups = some_groups()
        for one, other in product(groups[:12], groups[:6]):
            rows = self.run_it(joined, group=one, other=other)
            many = len(other)
            for (x, y), (v, w) in product(product(range(len(one)), range(many)), repeat=2):
                self.assertEqual(rows[x * many + y][v * many + w], one[x][v] * many + other[y][w])
            self.assertEqual([len(row) for row in rows], [len(one) * many] * (len(one) * many))
            self.gives(True, is_group, value=rows)
        self.gives(group_of((2, 3)), joined, group=group_of((2,)), other=group_of((3,)))

    def test_inverse_and_commutes(self):
        for group in some_groups():
            members = range(len(group))
            for member in members:
                found = [other for other in members if group[member][other] == 0 == group[other][member]]
                self.assertEqual(len(found), 1)
                self.gives(found[0], inverse, group=group, member=member)
            wanted = all(group[x][y] == group[y][x] for x, y in product(members, repeat=2))
            self.gives(wanted, commutes, group=group)
        self.assertIs(commutes(joined(group_of((3,)), quaternions())), False)

    def test_limit(self):
        with self.within_seconds(5):
            group = dihedral(12)
            self.gives(True, is_group, value=group)
            self.gives(12, inverse, group=group, member=12)
            self.gives(False, commutes, group=group)
            self.gives(True, commutes, group=group_of((24,)))
            self.assertEqual(len(joined(group, group_of((2,)))), 48)

    def test_errors(self):
        other = ("other", InvalidGroup, wrong_groups())
        self.refuses(joined, {"group": THREE, "other": quaternions()}, [GROUP, other])
        self.refuses(inverse, {"group": THREE, "member": 2}, [GROUP, ("member", InvalidMember, wrong_members(3))])
        self.refuses(commutes, {"group": THREE}, [GROUP])


def wrong_boxes():
    """What is no box, much of it almost BOX."""
    up, down = [0, 1, 2], [2, 1, 0]
    return strange() + [
        (THREE, [up, down]), (THREE, [up, down], 0, 0), [THREE, [up, down], 0], ((3,), [up, down], 0),
        (THREE, (up, down), 0), (THREE, [up], 0), (THREE, [], 0), (THREE, [up, down], 3), (THREE, [up, down], -1),
        (THREE, [up, down], True), (THREE, [up, down], None), (THREE, [up, down], [0]), (THREE, {0: up, 1: down}, 0),
        (THREE[:2], [up, down], 0),
    ] + [(bad, [up, down], 0) for bad in wrong_groups()] + [(THREE, [up, bad], 0) for bad in wrong_tables(3)] + [
        (THREE, [bad, up], 0) for bad in wrong_tables(3)]


SYSTEM = ("box", InvalidSystem, wrong_boxes())


class Boxes(Case):
    def test_is_box(self):
        good = [
            BOX, (THREE, [[0, 1, 2]] * 2, 0), ([[0]], [[0], [0]], 0), (quaternions(), [list(range(8))[::-1]] * 41, 7),
            (symmetric(3), [[5, 4, 3, 2, 1, 0]] * 3, 5),
        ]
        self.judges(is_box, good, wrong_boxes())

    def test_against_all_numbers(self):
        random = Random(390)
        for group in some_groups():
            for places in (2, 3) if len(group) < 7 else (2,):
                box = drawn_box(group, random, places)
                right = 0
                for told in product(range(len(group)), repeat=places):
                    code = list(told)
                    wanted = product_by_words(box, code)
                    self.assertEqual(product_of(box, code), wanted)
                    self.assertIs(is_right_box(box, code), wanted == box[2])
                    right += wanted == box[2]
                self.assertEqual(right, len(group) ** (places - 1))

    def test_sign_for(self):
        random = Random(391)
        for group in some_groups():
            for places in (2, 3, 5):
                box = drawn_box(group, random, places)
                for _ in range(6):
                    code = [random.randrange(len(group)) for _ in range(places)]
                    for place in range(places):
                        found = [
                            sign for sign in range(len(group))
                            if product_by_words(box, [*code[:place], sign, *code[place + 1:]]) == box[2]]
                        self.assertEqual(len(found), 1)
                        self.gives(found[0], sign_for, box=box, code=code, place=place)

    def test_the_order_of_the_places(self):
        group = symmetric(3)
        up = list(range(6))
        box = (group, [up, up, up], 0)
        unlike = 0
        for code in product(range(6), repeat=3):
            wanted = group[group[code[0]][code[1]]][code[2]]
            unlike += wanted != group[group[code[2]][code[1]]][code[0]]
            self.gives(wanted, product_of, box=box, code=list(code))
        self.assertGreater(unlike, 0)

    def test_limits(self):
        random = Random(392)
        for group in (dihedral(12), group_of((2, 12)), symmetric(4)):
            box = drawn_box(group, random, 40)
            code = [random.randrange(24) for _ in range(40)]
            with self.within_seconds(5):
                self.gives(product_by_words(box, code), product_of, box=box, code=code)
                for place in (0, 20, 39):
                    sign = sign_for(box, code, place)
                    self.assertIs(is_right_box(box, [*code[:place], sign, *code[place + 1:]]), True)
                self.assertIs(is_quiet_box(box), False)

    def test_errors(self):
        code = ("code", InvalidCode, wrong_codes(3, 3))
        for function in (product_of, is_right_box):
            self.refuses(function, {"box": BOX, "code": [0, 2, 1]}, [SYSTEM, code])
        self.refuses(sign_for, {"box": BOX, "code": [0, 2, 1], "place": 2}, [
            SYSTEM, code, ("place", InvalidNumber, wrong_places(3))])


class Exchanges(Case):
    def check(self, box):
        group, tables, _ = box
        quiet = True
        for place, (first, second) in enumerate(zip(tables, tables[1:])):
            pairs = list(combinations(range(len(group)), 2))
            swaps = [(x, y) for x, y in pairs if group[first[x]][second[y]] == group[first[y]][second[x]]]
            twins = [(x, y) for x, y in pairs if group[first[x]][second[x]] == group[first[y]][second[y]]]
            self.gives(swaps, passing_swaps, box=box, place=place)
            self.gives(twins, passing_twins, box=box, place=place)
            quiet = quiet and not swaps
        self.gives(quiet, is_quiet_box, box=box)

    def test_against_all_products(self):
        random = Random(400)
        for group in some_groups():
            for places in (2, 3, 4):
                self.check(drawn_box(group, random, places))
            up = list(range(len(group)))
            self.check((group, [up, up, up], 0))
            self.check((group, [up, [group[one].index(0) for one in up]], 0))

    def test_whatever_stands_elsewhere(self):
        random = Random(401)
        for group in (symmetric(3), group_of((4,)), mirrored(4)):
            box = drawn_box(group, random, 3)
            for place in (0, 1):
                swaps, twins = passing_swaps(box, place), passing_twins(box, place)
                for (x, y), rest in product(combinations(range(len(group)), 2), range(len(group))):
                    def code(one, two):
                        return [one, two, rest] if place == 0 else [rest, one, two]
                    same = product_by_words(box, code(x, y)) == product_by_words(box, code(y, x))
                    self.assertIs((x, y) in swaps, same)
                    same = product_by_words(box, code(x, x)) == product_by_words(box, code(y, y))
                    self.assertIs((x, y) in twins, same)

    def test_one_place_that_is_not_quiet(self):
        up, down = [0, 1, 2, 3, 4], [0, 4, 3, 2, 1]
        group = group_of((5,))
        for at in range(4):
            tables = [[up, down][(place + (place > at)) % 2] for place in range(5)]
            self.gives(False, is_quiet_box, box=(group, tables, 2))
        self.gives(True, is_quiet_box, box=(group, [up, down, up, down, up], 2))
        self.gives(True, is_quiet_box, box=([[0]], [[0], [0]], 0))

    def test_errors(self):
        for function in (passing_swaps, passing_twins):
            self.refuses(function, {"box": BOX, "place": 1}, [SYSTEM, ("place", InvalidNumber, wrong_places(2))])
        self.refuses(is_quiet_box, {"box": BOX}, [SYSTEM])


if __name__ == "__main__":
    unittest.main()
