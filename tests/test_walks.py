"""[18] and [19]: one entry changed, and round by round."""

import unittest
from itertools import permutations, product
from random import Random

from checkwright.errors import InvalidMember, InvalidOrders, InvalidRow, InvalidTable, Stuck, Uneven
from checkwright.walks import are_rounds, changed, is_changed, rounds
from tests.helper import Case, Group, strange, wrong_members, wrong_orders, wrong_rows, wrong_tables

ORDERS = ("orders", InvalidOrders, wrong_orders())
NAMES = ("orders", "first", "second", "old", "last", "new")


def all_tables(group):
    return [list(table) for table in permutations(range(group.size))]


def told_differences(group, first, second, old, last, new):
    """The differences behind a change, in order; None where it can't be."""
    told = group.differences(first, second)
    for member in (old, last):
        if member not in told:
            return None
        told.remove(member)
    return sorted(told + [new, group.sub(group.add(last, old), new)])


class Changed(Case):
    def check(self, group, *given):
        """One change, by position alone, as there are many of them."""
        wanted = told_differences(group, *given)
        if wanted is None:
            old, last = given[2:4]
            missing = last if old in group.differences(*given[:2]) else old
            self.raises(Stuck, missing, changed, **dict(zip(NAMES, (group.orders, *given))))
            return
        found = changed(group.orders, *given)
        self.assertIs(type(found), list)
        self.assertEqual(sorted(found), list(range(group.size)))
        self.assertEqual(sorted(group.differences(found, given[1])), wanted)
        self.assertIs(is_changed(group.orders, *given, found), True)

    def test_all_of_small_groups(self):
        for orders in [(2,), (3,), (4,), (2, 2)]:
            group = Group(orders)
            seconds = all_tables(group) if group.size < 4 else [list(range(4)), [2, 0, 3, 1]]
            for first, second in product(all_tables(group), seconds):
                for old, last, new in product(range(group.size), repeat=3):
                    self.check(group, first, second, old, last, new)

    def test_drawn_ones(self):
        random = Random(180)
        for orders in [(5,), (6,), (2, 3), (8,), (2, 4), (2, 2, 2), (9,), (3, 3), (10,), (12,)]:
            group = Group(orders)
            for _ in range(60):
                first, second = group.table(random), group.table(random)
                old, last = random.sample(group.differences(first, second), 2)
                self.check(group, first, second, old, last, random.randrange(group.size))
                all_alike = [group.add(entry, 1) for entry in second]
                self.check(group, all_alike, second, 1, 1, random.randrange(group.size))

    def test_at_once_and_after_many_steps(self):
        self.gives([0, 1, 2], changed, orders=(3,), first=[0, 1, 2], second=[0, 1, 2], old=0, last=0, new=0)
        self.gives([1, 0], changed, orders=(2,), first=[0, 1], second=[0, 1], old=0, last=0, new=1)
        group = Group((40,))
        plain = list(range(40))
        turned = plain[1:] + plain[:1]
        for first, old, last in [(plain, 0, 0), (turned, 1, 1)]:
            for new in range(40):
                self.check(group, first, plain, old, last, new)

    def test_forty_members(self):
        random = Random(181)
        for orders in [(40,), (2, 2, 10), (2, 2, 2, 5), (39,)]:
            group = Group(orders)
            with self.within_seconds():
                for _ in range(10):
                    first, second = group.table(random), group.table(random)
                    old, last = random.sample(group.differences(first, second), 2)
                    self.check(group, first, second, old, last, random.randrange(group.size))

    def test_once_with_everything_held(self):
        group = Group((2, 3))
        given = {"orders": (2, 3), "first": [3, 1, 4, 0, 2, 5], "second": [0, 2, 1, 5, 4, 3], "old": 3, "last": 3, "new": 1}
        self.assertEqual(group.differences(given["first"], given["second"]).count(3), 2)
        found = self.run_it(changed, **given)
        self.gives(True, is_changed, **given, value=found)

    def test_all_values_of_small_groups(self):
        random = Random(182)
        for orders in [(2,), (3,), (4,), (2, 2)]:
            group = Group(orders)
            tables = all_tables(group)
            for _ in range(60):
                given = [group.table(random), group.table(random)] + [random.randrange(group.size) for _ in range(3)]
                wanted = told_differences(group, *given)
                for value in tables:
                    right = wanted == sorted(group.differences(value, given[1]))
                    self.assertIs(is_changed(orders, *given, value), right)

    def test_any_value(self):
        given = {"orders": (3,), "first": [0, 1, 2], "second": [0, 1, 2], "old": 0, "last": 0, "new": 1}
        self.judges(is_changed, [[1, 0, 2], [0, 2, 1], [2, 1, 0]], wrong_tables(3) + [
            [0, 1, 2], [1, 2, 0], (1, 0, 2), [[1, 0, 2]], ([1, 0, 2],)], **given)
        stuck = [{**given, "old": 1}, {**given, "last": 2}, {**given, "first": [0, 2, 1], "last": 0}]
        for told in stuck:
            self.judges(is_changed, [], strange() + all_tables(Group((3,))), **told)

    def test_stuck(self):
        plain = [0, 1, 2, 3]
        for first, old, last, missing in [
            (plain, 1, 0, 1), (plain, 0, 1, 1), (plain, 1, 2, 1), (plain, 3, 3, 3), ([1, 0, 2, 3], 1, 1, 1),
            ([1, 0, 2, 3], 3, 3, 3), ([1, 0, 2, 3], 2, 0, 2), ([1, 0, 2, 3], 0, 2, 2), ([3, 1, 2, 0], 3, 3, 3),
        ]:
            for new in range(4):
                self.raises(Stuck, missing, changed, orders=(4,), first=first, second=plain, old=old, last=last, new=new)
        long = (10 ** 3,)
        many = list(range(1000))
        old, last = 700, 800
        self.raises(Stuck, old, changed, orders=long, first=many, second=many, old=old, last=last, new=0)
        self.raises(Stuck, last, changed, orders=long, first=many, second=many, old=0, last=last, new=0)

    def test_errors(self):
        tables, members = wrong_tables(3), wrong_members(3)
        given = {"orders": (3,), "first": [0, 1, 2], "second": [0, 1, 2], "old": 0, "last": 0, "new": 1}
        wrong = [
            ORDERS, ("first", InvalidTable, tables), ("second", InvalidTable, tables), ("old", InvalidMember, members),
            ("last", InvalidMember, members), ("new", InvalidMember, members)]
        self.refuses(changed, given, wrong)
        self.refuses_first(is_changed, {**given, "value": [1, 0, 2]}, wrong)
        self.refuses_first(is_changed, {**given, "old": 2, "value": [1, 0, 2]}, wrong)
        for member in members:
            self.raises(InvalidMember, member, changed, **{**given, "old": 2, "new": member})
            self.raises(InvalidMember, member, changed, **{**given, "old": 2, "last": member})


class Rounds(Case):
    def wanted(self, group, row):
        """The differences of each round, in order."""
        told = []
        for at in range(group.size):
            entries = row[:at] + [0] * (group.size - 1 - at)
            told.append(sorted(entries + [group.neg(group.total(row[:at]))]))
        return told

    def check(self, group, row):
        told = self.run_it(rounds, orders=group.orders, row=row)
        plain = list(range(group.size))
        self.assertIs(type(told), list)
        self.assertEqual([sorted(table) for table in told], [plain] * group.size)
        self.assertEqual([sorted(group.differences(table, plain)) for table in told], self.wanted(group, row))
        self.assertEqual(told[0], plain)
        self.assertEqual(sorted(group.differences(told[-1], plain)), sorted(row))
        self.gives(True, are_rounds, orders=group.orders, row=row, value=told)

    def test_every_row_of_small_groups(self):
        for orders in [(2,), (3,), (4,), (2, 2), (5,)]:
            group = Group(orders)
            for row in product(range(group.size), repeat=group.size):
                if group.total(row) == 0:
                    self.check(group, list(row))
                else:
                    row = list(row)
                    self.raises(Uneven, row, rounds, orders=orders, row=row)

    def test_forty_members(self):
        random = Random(191)
        for orders in [(40,), (2, 2, 10), (2, 2, 2, 5), (3, 13)]:
            group = Group(orders)
            with self.within_seconds():
                self.check(group, group.even_row(random))
                self.check(group, [0] * group.size)
                self.check(group, group.differences(group.table(random), group.table(random)))

    def test_all_values_of_small_groups(self):
        for orders in [(2,), (3,)]:
            group = Group(orders)
            plain = list(range(group.size))
            lists = [list(told) for told in product(all_tables(group), repeat=group.size)]
            for row in product(range(group.size), repeat=group.size):
                wanted = self.wanted(group, list(row))
                for told in lists:
                    right = [sorted(group.differences(table, plain)) for table in told] == wanted
                    self.assertIs(are_rounds(orders, list(row), told), right and group.total(row) == 0)

    def test_any_value(self):
        row = [1, 1, 1]
        told = [[0, 1, 2], [0, 2, 1], [1, 2, 0]]
        self.judges(are_rounds, [told, [[0, 1, 2], [2, 1, 0], [1, 2, 0]]], strange() + [
            tuple(told), told[:2], told + [told[2]], told[1:], [tuple(table) for table in told], told[::-1], told[0], [told],
            {0: told}, [[0, 1, 2], [0, 1, 2], [1, 2, 0]], [[0, 1, 2], [0, 2, 1], [2, 0, 1]], [], [[], [], []],
            [[1, 2, 0], [0, 2, 1], [1, 2, 0]],
        ] + [told[:2] + [bad] for bad in wrong_tables(3)] + [told[:1] + [bad] + told[2:] for bad in wrong_tables(3)] + [
            [bad] + told[1:] for bad in wrong_tables(3)], orders=(3,), row=row)
        self.judges(are_rounds, [], strange() + [told, [[0, 1, 2]] * 3], orders=(3,), row=[1, 1, 2])
        plain = [0, 1, 2]
        self.judges(are_rounds, [[plain, plain, plain]], [[plain, plain], [plain] * 4], orders=(3,), row=[0, 0, 0])

    def test_errors(self):
        row = ("row", InvalidRow, wrong_rows(3))
        self.refuses(rounds, {"orders": (3,), "row": [1, 1, 1]}, [ORDERS, row])
        self.refuses_first(are_rounds, {"orders": (3,), "row": [1, 1, 1], "value": [[0, 1, 2]]}, [ORDERS, row])
        self.refuses_first(are_rounds, {"orders": (3,), "row": [1, 1, 2], "value": [[0, 1, 2]]}, [ORDERS, row])


if __name__ == "__main__":
    unittest.main()
