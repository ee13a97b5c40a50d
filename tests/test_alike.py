"""[12] and [13]: systems that do the same."""

import unittest
from itertools import permutations, product
from math import factorial
from random import Random

from checkwright.alike import are_alike, how_many_alike, least_alike, parting, ways_same
from checkwright.errors import InvalidOrders, InvalidSystem, Stuck
from tests.helper import Case, Group, wrong_orders, wrong_systems

THREE = ((3,), [[0, 1, 2], [0, 2, 1], [1, 2, 0]], 1)
SIX = [(m // 3 * 3 + m % 3 * 4) % 6 for m in range(6)]  # the members of (2, 3) by those of (6,)
TWELVE = [(12,), (3, 4), (4, 3), (2, 6), (6, 2), (2, 2, 3), (2, 3, 2), (3, 2, 2)]


def led(system, group, way, shifts):
    """The system alike one, led by a way to another group, with members added at each place."""
    tables = [[group.add(way[entry], shift) for entry in table] for table, shift in zip(system[1], shifts)]
    return (group.orders, tables, group.add(way[system[2]], *shifts))


def exchanged(system, place, one, two):
    """The system with two entries of a place exchanged."""
    tables = [list(table) for table in system[1]]
    tables[place][one], tables[place][two] = tables[place][two], tables[place][one]
    return (system[0], tables, system[2])


def all_systems(orders, places):
    many = Group(orders).size
    tables = [list(table) for table in permutations(range(many))]
    return [(orders, [list(one) for one in told], total) for told in product(tables, repeat=places) for total in range(many)]


def classes(orders, places):
    """All systems, in lists of those with the same right numbers."""
    group, told = Group(orders), {}
    for system in all_systems(orders, places):
        told.setdefault(str(group.right_codes(system)), []).append(system)
    return list(told.values())


class AreAlike(Case):
    def judged(self, system, other):
        """That both functions say what all numbers say; whether the systems are alike."""
        right, too = Group(system[0]).right_codes(system), Group(other[0]).right_codes(other)
        self.assertIs(are_alike(system, other), right == too)
        found = parting(system, other)
        if right == too:
            self.assertIsNone(found)
        else:
            self.assertIsInstance(found, list)
            self.assertTrue((found in right) != (found in too), found)
        return right == too

    def test_small_ones(self):
        for orders, places in [((2,), 2), ((2,), 3), ((2,), 4), ((3,), 2)]:
            told = all_systems(orders, places)
            for system, other in product(told, repeat=2):
                self.judged(system, other)

    def test_drawn_ones(self):
        random = Random(121)
        for orders, others, places, way in [
            ((3,), (3,), 3, [0, 2, 1]), ((3,), (3,), 4, [0, 1, 2]), ((4,), (4,), 3, [0, 3, 2, 1]),
            ((2, 2), (2, 2), 3, [0, 2, 3, 1]), ((2, 2), (2, 2), 4, [0, 3, 2, 1]), ((2, 3), (6,), 3, SIX),
            ((4,), (4,), 2, [0, 3, 2, 1]),
        ]:
            group, alike = Group(others), 0
            for _ in range(12):
                system = Group(orders).system(random, places)
                other = led(system, group, way, [random.randrange(group.size) for _ in range(places)])
                alike += self.judged(system, other)
                one, two = random.sample(range(group.size), 2)
                self.judged(system, exchanged(other, random.randrange(places), one, two))
                self.judged(system, (other[0], other[1], (other[2] + 1) % group.size))
                self.judged(system, group.system(random, places))
            self.assertEqual(alike, 12)

    def test_another_group_of_the_same_size(self):
        random = Random(122)
        for orders, others in [((4,), (2, 2)), ((2, 2), (4,))]:
            for places in (2, 3):
                for _ in range(20):
                    self.judged(Group(orders).system(random, places), Group(others).system(random, places))
        for orders, others in [((8,), (2, 4)), ((2, 4), (2, 2, 2)), ((9,), (3, 3))]:
            system, other = Group(orders).system(random, 3), Group(others).system(random, 3)
            self.judged(system, other)

    def test_two_places_need_no_way(self):
        """With two places, the entries of both can be renamed together by any table."""
        random = Random(123)
        for orders, others in [((4,), (2, 2)), ((2, 2), (4,)), ((5,), (5,)), ((6,), (2, 3)), ((3,), (3,))]:
            group, other_group = Group(orders), Group(others)
            for _ in range(10):
                system = group.system(random, 2)
                mates = {x: y for x, y in group.right_codes(system)}
                total, first = random.randrange(group.size), other_group.table(random)
                second = [0] * group.size
                for x, y in mates.items():
                    second[y] = other_group.sub(total, first[x])
                self.assertTrue(self.judged(system, (others, [first, second], total)))
                self.judged(system, exchanged((others, [first, second], total), 1, 0, 1))

    def test_tables_led_by_what_keeps_no_sums(self):
        """All tables and the total led by one table of members, which turns not all sums into sums."""
        random = Random(127)
        turned = [0, 2, 1, 3, 4]
        for orders, others, way in [
            ((4,), (4,), [0, 2, 1, 3]), ((4,), (2, 2), [0, 1, 2, 3]), ((2, 2), (4,), [0, 1, 2, 3]),
            ((5,), (5,), turned), ((6,), (2, 3), [0, 1, 2, 3, 4, 5]), ((6,), (6,), [0, 1, 3, 2, 4, 5]),
            # These keep the sums with the one figure, but not those with the other one.
            ((2, 5), (2, 5), [5 * (member // 5) + turned[member % 5] for member in range(10)]),
            ((5, 2), (5, 2), [2 * turned[member // 2] + member % 2 for member in range(10)]),
            ((2, 3), (2, 3), [0, 1, 2, 4, 5, 3]), ((3, 2), (3, 2), [0, 3, 2, 5, 4, 1]), ((2, 4), (8,), list(range(8))),
            ((2, 3, 3), (2, 3, 3), list(range(9)) + [10, 11, 9, 13, 14, 12, 16, 17, 15]),
        ]:
            group, other_group = Group(orders), Group(others)
            for system in (group.system(random, 3), (orders, [list(range(group.size)) for _ in range(3)], 0)):
                for shifts in ([0, 0, 0], [random.randrange(group.size) for _ in range(3)]):
                    self.assertFalse(self.judged(system, led(system, other_group, way, shifts)))
        for others in [(2, 20), (2, 2, 10)]:
            system, other = ((40,), [list(range(40))] * 40, 0), (others, [list(range(40))] * 40, 0)
            with self.within_seconds():
                self.gives(False, are_alike, system=system, other=other)
                found = self.run_it(parting, system=system, other=other)
                self.assertNotEqual(sum(found) % 40 == 0, Group(others).total(found) == 0)

    def test_one_place_more(self):
        """All places of the one do the same in the other one, in which another place stands behind."""
        random = Random(128)
        for orders in [(2,), (3,), (2, 2)]:
            for places in (2, 3, 4):
                system = Group(orders).system(random, places)
                other = (orders, system[1] + [list(range(Group(orders).size))], system[2])
                self.gives(False, are_alike, system=system, other=other)
                self.gives(False, are_alike, system=other, other=system)
                self.raises(Stuck, other, parting, system=system, other=other)
                self.raises(Stuck, system, parting, system=other, other=system)

    def test_other_shapes(self):
        random = Random(124)
        for orders, places, others, many in [((3,), 2, (3,), 3), ((3,), 3, (4,), 3), ((2, 3), 3, (5,), 3), ((2,), 4, (2,), 3)]:
            system, other = Group(orders).system(random, places), Group(others).system(random, many)
            self.gives(False, are_alike, system=system, other=other)
            self.raises(Stuck, other, parting, system=system, other=other)
            self.raises(Stuck, system, parting, system=other, other=system)

    def test_forty_signs_and_places(self):
        random = Random(125)
        for orders, others in [((40,), (40,)), ((2, 2, 10), (2, 2, 10)), ((5, 8), (40,)), ((2, 20), (2, 20))]:
            group, other_group = Group(orders), Group(others)
            system = group.system(random, 40)
            way = list(range(40))
            if orders == (5, 8):
                way = [(member // 8 * 16 + member % 8 * 25) % 40 for member in range(40)]
            other = led(system, other_group, way, [random.randrange(40) for _ in range(40)])
            with self.within_seconds():
                self.gives(True, are_alike, system=system, other=other)
                self.gives(None, parting, system=system, other=other)
                for unlike in [
                    exchanged(other, 0, 38, 39), exchanged(other, 1, 0, 1), exchanged(other, 2, 38, 39),
                    exchanged(other, 39, 38, 39), exchanged(other, 20, 0, 39), (others, other[1], (other[2] + 1) % 40),
                ]:
                    self.gives(False, are_alike, system=system, other=unlike)
                    found = self.run_it(parting, system=system, other=unlike)
                    right = group.sum_of(system, found) == system[2]
                    self.assertNotEqual(right, other_group.sum_of(unlike, found) == unlike[2])

    def test_forty_signs_of_another_group(self):
        random = Random(126)
        for orders, others in [((40,), (2, 20)), ((2, 20), (2, 2, 10)), ((2, 2, 10), (40,))]:
            for places in (2, 3, 40):
                system, other = Group(orders).system(random, places), Group(others).system(random, places)
                with self.within_seconds():
                    self.gives(False, are_alike, system=system, other=other)
                    found = self.run_it(parting, system=system, other=other)
                    right = Group(orders).sum_of(system, found) == system[2]
                    self.assertNotEqual(right, Group(others).sum_of(other, found) == other[2])

    def test_errors(self):
        for function in (are_alike, parting):
            self.refuses(function, {"system": THREE, "other": THREE}, [
                ("system", InvalidSystem, wrong_systems()), ("other", InvalidSystem, wrong_systems())])


class WaysSame(Case):
    def test_by_all_tables(self):
        for orders in [(2,), (3,), (4,), (2, 2), (5,), (6,), (2, 3), (3, 2)]:
            group = Group(orders)
            pairs = list(product(range(group.size), repeat=2))
            wanted = [
                list(way) for way in permutations(range(group.size))
                if way[0] == 0 and all(way[group.add(a, b)] == group.add(way[a], way[b]) for a, b in pairs)
            ]
            self.gives(wanted, ways_same, orders=orders)

    def test_larger_ones(self):
        counts = {(7,): 6, (8,): 4, (2, 4): 8, (4, 2): 8, (2, 2, 2): 168, (9,): 6, (3, 3): 48, (10,): 4, (2, 5): 4, (11,): 10}
        counts = {**counts, (12,): 4, (3, 4): 4, (4, 3): 4, (2, 6): 12, (6, 2): 12, (2, 2, 3): 12, (2, 3, 2): 12, (3, 2, 2): 12}
        for orders, many in counts.items():
            group = Group(orders)
            with self.within_seconds():
                told = self.run_it(ways_same, orders=orders)
            self.assertEqual(len(told), many)
            self.assertEqual(told[0], list(range(group.size)))
            self.assertTrue(all(one < two for one, two in zip(told, told[1:])))
            for way in told:
                self.assertEqual(sorted(way), list(range(group.size)))
                for a, b in product(range(group.size), repeat=2):
                    self.assertEqual(way[group.add(a, b)], group.add(way[a], way[b]))

    def test_errors(self):
        self.refuses(ways_same, {"orders": (2, 2)}, [("orders", InvalidOrders, wrong_orders())])


class LeastAndHowMany(Case):
    def test_all_of_small_sizes(self):
        for orders, places in [((2,), 2), ((2,), 3), ((2,), 4), ((3,), 2), ((3,), 3), ((4,), 2), ((2, 2), 2)]:
            for alike in classes(orders, places):
                least = min(alike, key=lambda system: system[1:])
                for system in alike:
                    self.same(least_alike(system), least)
                    self.assertEqual(how_many_alike(system), len(alike))
                self.gives(least, least_alike, system=alike[-1])
                self.gives(len(alike), how_many_alike, system=alike[-1])

    def test_drawn_ones(self):
        """From three places on: the least of all systems led by a way, with members added."""
        random = Random(131)
        for orders, places in [((4,), 3), ((2, 2), 3), ((5,), 3), ((2, 3), 3), ((2, 2), 4)]:
            group = Group(orders)
            system = group.system(random, places)
            alike = [
                led(system, group, way, shifts)
                for way in ways_same(orders) for shifts in product(range(group.size), repeat=places)
            ]
            self.gives(min(alike), least_alike, system=system)
            self.gives(len(alike), how_many_alike, system=system)
            for other in random.sample(alike, 20):
                self.same(least_alike(other), min(alike))

    def test_two_places(self):
        random = Random(132)
        for orders in [(5,), (6,), (2, 2, 2), (12,), (2, 6), (2, 2, 3), (11,)]:
            group = Group(orders)
            for _ in range(5):
                system = group.system(random, 2)
                least = self.run_it(least_alike, system=system)
                self.assertEqual((least[0], least[1][0], least[1][1][0]), (orders, list(range(group.size)), 0))
                for x in range(group.size):
                    y = least[1][1].index(group.sub(least[2], x))
                    self.assertEqual(group.sum_of(system, [x, y]), system[2])
                self.gives(group.size * factorial(group.size), how_many_alike, system=system)

    def test_twelve_signs(self):
        random = Random(133)
        for orders in TWELVE + [(2, 2, 2), (3, 3), (11,)]:
            group = Group(orders)
            ways = ways_same(orders)
            for places in (3, 40):
                system = group.system(random, places)
                with self.within_seconds():
                    least = self.run_it(least_alike, system=system)
                    self.gives(len(ways) * group.size ** places, how_many_alike, system=system)
                    noughts = [group.neg(way[table[0]]) for way in ways for table in system[1]]
                    told = [
                        led(system, group, way, noughts[at * places:(at + 1) * places]) for at, way in enumerate(ways)
                    ]
                    self.same(least, min(told))
                    other = led(system, group, ways[-1], [random.randrange(group.size) for _ in range(places)])
                    self.same(least_alike(other), least)
                    self.assertNotEqual(least_alike(exchanged(other, places - 1, 0, 1)), least)

    def test_errors(self):
        for function in (least_alike, how_many_alike):
            self.refuses(function, {"system": THREE}, [("system", InvalidSystem, wrong_systems())])


if __name__ == "__main__":
    unittest.main()
