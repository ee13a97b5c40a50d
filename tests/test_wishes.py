"""[20] to [22]: wishes for all places."""

import unittest
from itertools import permutations, product
from random import Random

from checkwright.errors import InvalidMember, InvalidNumber, InvalidOrders, InvalidSystem, InvalidTable, InvalidWish, Uneven
from checkwright.wishes import extended, first_uneven, is_wish, keeps, keeps_all, rewished, system_for
from tests.helper import (
    Case, Group, wrong_members, wrong_orders, wrong_places, wrong_systems, wrong_tables, wrong_wish_lists,
    wrong_wishes_of_one,
)

THREE = ((3,), [[0, 1, 2], [0, 2, 1], [1, 2, 0]], 1)
ORDERS = ("orders", InvalidOrders, wrong_orders())
SYSTEM = ("system", InvalidSystem, wrong_systems())


def kept_by(group, first, second, wish):
    """Whether two tables keep a wish, by its words."""
    kind, row = wish
    found = group.differences(first, second) if kind == "swap" else group.sums(first, second)
    return all(found.count(member) == row.count(member) for member in range(group.size))


def drawn_wish(group, random):
    return (random.choice(["swap", "twin"]), group.even_row(random))


def uneven_wish(group, random):
    kind, row = drawn_wish(group, random)
    at = random.randrange(group.size)
    return (kind, row[:at] + [group.add(row[at], 1)] + row[at + 1:])


class Judging(Case):
    def test_is_wish(self):
        for kind in ("swap", "twin"):
            self.judges(is_wish, [(kind, [0, 0, 0]), (kind, [2, 1, 0]), (kind, [2, 2, 1])], wrong_wishes_of_one(3), orders=(3,))
            self.judges(is_wish, [(kind, [9] * 10)], wrong_wishes_of_one(10) + [(kind, [0] * 9)], orders=(2, 5))
        self.judges(is_wish, [], wrong_wishes_of_one(3), orders=(10 ** 29, 10 ** 29))
        self.refuses_first(is_wish, {"orders": (3,), "value": ("swap", [0, 0, 0])}, [ORDERS])

    def test_keeps(self):
        for orders in [(2,), (3,), (2, 2)]:
            group = Group(orders)
            first = group.table(Random(1))
            rows = list(product(range(group.size), repeat=group.size))
            for second in permutations(range(group.size)):
                system = (orders, [first, list(second), list(second)], 0)
                for row, kind in product(rows, ("swap", "twin")):
                    wish = (kind, list(row))
                    self.assertIs(keeps(system, 0, wish), kept_by(group, first, list(second), wish))
        self.gives(True, keeps, system=THREE, place=0, wish=("swap", [1, 0, 2]))
        self.gives(True, keeps, system=THREE, place=0, wish=("twin", [0, 0, 0]))
        self.gives(True, keeps, system=THREE, place=1, wish=("twin", [1, 1, 1]))
        self.gives(False, keeps, system=THREE, place=1, wish=("twin", [0, 0, 0]))

    def test_keeps_all(self):
        random = Random(200)
        for orders in [(3,), (4,), (2, 2), (2, 3), (10,)]:
            group = Group(orders)
            for places in (2, 3, 5):
                system = group.system(random, places)
                wishes = []
                for first, second in zip(system[1], system[1][1:]):
                    kind = random.choice(["swap", "twin"])
                    row = group.differences(first, second) if kind == "swap" else group.sums(first, second)
                    wishes.append((kind, random.sample(row, group.size)))
                self.gives(True, keeps_all, system=system, wishes=wishes)
                for at in range(places - 1):
                    other = uneven_wish(group, random)
                    self.gives(False, keeps_all, system=system, wishes=wishes[:at] + [other] + wishes[at + 1:])

    def test_same_members_but_not_as_often(self):
        system = ((4,), [[0, 1, 2, 3], [1, 0, 2, 3]], 0)  # differences 3, 1, 0, 0
        self.gives(True, keeps, system=system, place=0, wish=("swap", [0, 0, 1, 3]))
        for row in ([0, 1, 1, 3], [0, 1, 3, 3], [1, 1, 3, 3], [0, 0, 0, 0], [0, 1, 2, 3]):
            self.gives(False, keeps, system=system, place=0, wish=("swap", row))
            self.gives(False, keeps_all, system=system, wishes=[("swap", row)])

    def test_errors(self):
        wish = ("twin", [0, 1, 0])
        self.refuses(keeps, {"system": THREE, "place": 1, "wish": wish}, [
            SYSTEM, ("place", InvalidNumber, wrong_places(2)), ("wish", InvalidWish, wrong_wishes_of_one(3))])
        self.refuses(keeps_all, {"system": THREE, "wishes": [wish, wish]}, [
            SYSTEM, ("wishes", InvalidWish, wrong_wish_lists(3, 2) + [[], [wish], [wish] * 3])])
        self.run_it(keeps_all, system=((3,), THREE[1][:2], 0), wishes=[wish])


class AllAtOnce(Case):
    def check(self, group, first, wishes, total):
        system = self.run_it(system_for, orders=group.orders, first=first, wishes=wishes, total=total)
        self.assertIs(type(system), tuple)
        orders, tables, found = system
        self.same((orders, tables[0], found), (group.orders, first, total))
        self.assertEqual(len(tables), len(wishes) + 1)
        for table in tables:
            self.same(sorted(table), list(range(group.size)))
        for one, two, wish in zip(tables, tables[1:], wishes):
            self.assertTrue(kept_by(group, one, two, wish))
        self.gives(True, keeps_all, system=system, wishes=wishes)

    def test_every_wish_of_small_groups(self):
        random = Random(210)
        for orders in [(2,), (3,), (2, 2)]:
            group = Group(orders)
            for row, kind in product(product(range(group.size), repeat=group.size), ("swap", "twin")):
                first, wishes, total = group.table(random), [(kind, list(row))], random.randrange(group.size)
                if group.total(row) == 0:
                    self.gives(None, first_uneven, orders=orders, wishes=wishes)
                    self.check(group, first, wishes, total)
                else:
                    self.gives(0, first_uneven, orders=orders, wishes=wishes)
                    self.raises(Uneven, wishes[0][1], system_for, orders=orders, first=first, wishes=wishes, total=total)

    def test_drawn_ones(self):
        random = Random(211)
        for orders in [(2,), (3,), (4,), (2, 2), (2, 3), (9,), (10,), (2, 6)]:
            group = Group(orders)
            for many in (1, 2, 3, 8):
                wishes = [drawn_wish(group, random) for _ in range(many)]
                self.gives(None, first_uneven, orders=orders, wishes=wishes)
                self.check(group, group.table(random), wishes, random.randrange(group.size))

    def test_the_first_uneven_one(self):
        random = Random(212)
        for orders in [(2,), (3,), (2, 2), (10,)]:
            group = Group(orders)
            even = [drawn_wish(group, random) for _ in range(4)]
            odd = [uneven_wish(group, random) for _ in range(4)]
            for wishes, at in [
                (odd, 0), (even[:1] + odd, 1), (even + odd[:1], 4), (even[:2] + odd[:1] + even + odd[1:2], 2),
                (odd[:1] + even, 0),
            ]:
                self.gives(at, first_uneven, orders=orders, wishes=wishes)
                given = {"orders": orders, "first": group.table(random), "wishes": wishes, "total": 1}
                self.raises(Uneven, wishes[at][1], system_for, **given)

    def test_forty_signs_and_places(self):
        random = Random(213)
        for orders in [(40,), (2, 2, 10), (2, 20)]:
            group = Group(orders)
            wishes = [drawn_wish(group, random) for _ in range(39)]
            with self.within_seconds():
                self.gives(None, first_uneven, orders=orders, wishes=wishes)
                self.check(group, group.table(random), wishes, 39)

    def test_errors(self):
        wish, odd = ("twin", [1, 2, 0]), ("swap", [0, 0, 1])
        lists = ("wishes", InvalidWish, wrong_wish_lists(3, 3) + [[]])
        self.refuses(first_uneven, {"orders": (3,), "wishes": [wish, odd]}, [ORDERS, lists])
        self.refuses(system_for, {"orders": (3,), "first": [2, 0, 1], "wishes": [wish, wish], "total": 2}, [
            ORDERS, ("first", InvalidTable, wrong_tables(3)), lists, ("total", InvalidMember, wrong_members(3))])
        for total in wrong_members(3):
            self.raises(InvalidMember, total, system_for, orders=(3,), first=[0, 1, 2], wishes=[odd], total=total)
        for first in wrong_tables(3):
            self.raises(InvalidTable, first, system_for, orders=(3,), first=first, wishes=[odd], total=0)


class LongerAndTurned(Case):
    def check_extended(self, group, system, wish):
        longer = self.run_it(extended, system=system, wish=wish)
        self.same((longer[0], longer[1][:-1], longer[2]), system)
        self.same(sorted(longer[1][-1]), list(range(group.size)))
        self.assertTrue(kept_by(group, longer[1][-2], longer[1][-1], wish))

    def check_rewished(self, group, system, place, wish):
        other = self.run_it(rewished, system=system, place=place, wish=wish)
        self.same((other[0], other[1][:place + 1], other[2]), (system[0], system[1][:place + 1], system[2]))
        self.assertEqual(len(other[1]), len(system[1]))
        for table in other[1]:
            self.same(sorted(table), list(range(group.size)))
        self.assertTrue(kept_by(group, other[1][place], other[1][place + 1], wish))
        for at in range(place + 1, len(system[1]) - 1):
            was = group.differences(system[1][at], system[1][at + 1])
            self.assertTrue(kept_by(group, other[1][at], other[1][at + 1], ("swap", was)))

    def test_extended(self):
        random = Random(220)
        for orders in [(2,), (3,), (4,), (2, 2), (2, 3), (10,), (2, 6)]:
            group = Group(orders)
            for places in (2, 3, 6):
                system = group.system(random, places)
                for kind in ("swap", "twin"):
                    self.check_extended(group, system, (kind, group.even_row(random)))
                    odd = (kind, uneven_wish(group, random)[1])
                    self.raises(Uneven, odd[1], extended, system=system, wish=odd)

    def test_rewished(self):
        random = Random(221)
        for orders in [(2,), (3,), (4,), (2, 2), (2, 3), (10,), (2, 6)]:
            group = Group(orders)
            for places in (2, 3, 6):
                system = group.system(random, places)
                for place in range(places - 1):
                    for kind in ("swap", "twin"):
                        self.check_rewished(group, system, place, (kind, group.even_row(random)))
                    odd = uneven_wish(group, random)
                    self.raises(Uneven, odd[1], rewished, system=system, place=place, wish=odd)

    def test_forty_signs_and_places(self):
        random = Random(222)
        for orders in [(40,), (2, 2, 10)]:
            group = Group(orders)
            system = group.system(random, 40)
            with self.within_seconds(20):
                self.check_extended(group, system, drawn_wish(group, random))
                for place in (0, 17, 38):
                    self.check_rewished(group, system, place, drawn_wish(group, random))

    def test_errors(self):
        wish, odd = ("twin", [1, 2, 0]), ("swap", [0, 0, 1])
        wishes = ("wish", InvalidWish, wrong_wishes_of_one(3))
        place = ("place", InvalidNumber, wrong_places(2))
        self.refuses(extended, {"system": THREE, "wish": wish}, [SYSTEM, wishes])
        self.refuses(rewished, {"system": THREE, "place": 1, "wish": wish}, [SYSTEM, place, wishes])
        for number in wrong_places(2):
            self.raises(InvalidNumber, number, rewished, system=THREE, place=number, wish=odd)


if __name__ == "__main__":
    unittest.main()
