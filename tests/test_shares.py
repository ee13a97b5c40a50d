"""[54] to [56]: which share of the slips passes, two systems compared, tables in the best order."""

import unittest
from fractions import Fraction
from itertools import permutations
from random import Random

from checkwright.errors import InvalidNumber, InvalidOrders, InvalidSlip, InvalidSystem, InvalidTable
from checkwright.shares import best_order, fewest_in_order, is_never_worse, share_of, share_unseen, weights_against
from tests.helper import (
    KINDS, REACHES, Case, Group, all_slips, shift_by_words, strange, wrong_orders, wrong_slip_kinds, wrong_systems, wrong_tables,
)

THREE = ((3,), [[0, 1, 2], [0, 2, 1], [1, 2, 0]], 1)
SYSTEM = ("system", InvalidSystem, wrong_systems())
KIND = ("kind", InvalidSlip, wrong_slip_kinds())
GROUPS = [Group(orders) for orders in [(2,), (3,), (4,), (2, 2), (5,), (6,), (2, 3), (2, 4), (3, 3)]]


def share_by_words(group, system, kind):
    slips = all_slips(group.size, len(system[1]), kind)
    if not slips:
        return Fraction(0)
    return Fraction(len([slip for slip in slips if shift_by_words(group, system, slip) == 0]), len(slips))


def some_systems(seed):
    random, told = Random(seed), []
    for group in GROUPS:
        up, down = list(range(group.size)), [group.neg(member) for member in range(group.size)]
        told.extend((group, group.system(random, places)) for places in (2, 3, 4))
        told.append((group, (group.orders, [up, up], 0)))
        told.append((group, (group.orders, [up, down, up, down], 0)))
        told.append((group, (group.orders, [up] * 3, 1)))
    return told


def wrong_weights():
    """What are no five counts, not all 0."""
    return strange() + [
        (0, 0, 0, 0, 0), (1, 1, 1, 1), (1, 1, 1, 1, 1, 1), [1, 1, 1, 1, 1], (1, 1, 1, 1, -1), (-1, 1, 1, 1, 1), (1, 1, 1, 1, True),
        (False, 1, 1, 1, 1), (1, 1, None, 1, 1), (1, 1, 1, "1", 1), 1, "11111", {kind: 1 for kind in KINDS}, (1, 1, [1], 1, 1),
        ((1, 1, 1, 1, 1),), (3, -3, 0, 0, 1),
    ]


class Shares(Case):
    def test_against_all_slips(self):
        for group, system in some_systems(540):
            for kind in KINDS:
                share = share_by_words(group, system, kind)
                self.gives((share.numerator, share.denominator), share_of, system=system, kind=kind)

    def test_without_any_slip(self):
        for kind in ("jump", "jumptwin"):
            self.gives((0, 1), share_of, system=((2, 2), [[0, 1, 2, 3], [0, 1, 2, 3]], 1), kind=kind)

    def test_words(self):
        up = list(range(10))
        plain = ((10,), [up, up, up], 4)
        self.gives((0, 1), share_of, system=plain, kind="single")
        self.gives((1, 1), share_of, system=plain, kind="swap")
        self.gives((1, 9), share_of, system=plain, kind="twin")
        self.gives((1, 1), share_of, system=plain, kind="jump")

    def test_of_all(self):
        random = Random(541)
        for group, system in some_systems(542):
            shares = [share_by_words(group, system, kind) for kind in KINDS]
            told = [tuple(random.choice([0, 0, 1, 2, 7, 10 ** 30 - 1]) for _ in KINDS) for _ in range(4)]
            told += [tuple(1 if kind == only else 0 for kind in KINDS) for only in KINDS] + [(79, 10, 1, 1, 0), (5, 5, 5, 5, 5)]
            for weights in told:
                if sum(weights) > 0:
                    share = sum(weight * share for weight, share in zip(weights, shares)) / sum(weights)
                    self.gives((share.numerator, share.denominator), share_unseen, system=system, weights=weights)

    def test_forty_signs_and_places(self):
        random = Random(543)
        for orders in [(40,), (2, 2, 10)]:
            group = Group(orders)
            system = group.system(random, 40)
            with self.within_seconds():
                found = share_unseen(system, (79, 10, 1, 1, 10 ** 29))
                told = [share_of(system, kind) for kind in KINDS]
                self.assertTrue(is_never_worse(system, system))
            wanted = sum(weight * Fraction(*share) for weight, share in zip((79, 10, 1, 1, 10 ** 29), told)) / (10 ** 29 + 91)
            self.assertEqual(Fraction(*found), wanted)

    def test_errors(self):
        self.refuses(share_of, {"system": THREE, "kind": "jump"}, [SYSTEM, KIND])
        self.refuses(share_unseen, {"system": THREE, "weights": (1, 0, 2, 0, 3)}, [
            SYSTEM, ("weights", InvalidNumber, wrong_weights())])


class TwoSystems(Case):
    def test_kind_by_kind_and_for_drawn_weights(self):
        random, told = Random(550), some_systems(551)
        found = set()
        for _ in range(400):
            (group, system), (others, other) = random.choice(told), random.choice(told)
            mine = [share_by_words(group, system, kind) for kind in KINDS]
            theirs = [share_by_words(others, other, kind) for kind in KINDS]
            worse = [kind for kind, one, two in zip(KINDS, mine, theirs) if one > two]
            self.gives(worse[0] if worse else None, weights_against, system=system, other=other)
            self.gives(not worse, is_never_worse, system=system, other=other)
            found.add(worse[0] if worse else None)
            if not worse:
                for _ in range(3):
                    weights = tuple(random.randrange(1, 50) for _ in KINDS)
                    self.assertLessEqual(Fraction(*share_unseen(system, weights)), Fraction(*share_unseen(other, weights)))
            else:
                weights = tuple(1 if kind == worse[0] else 0 for kind in KINDS)
                self.assertGreater(Fraction(*share_unseen(system, weights)), Fraction(*share_unseen(other, weights)))
        self.assertEqual(found, {None, "swap", "jump", "twin", "jumptwin"})

    def test_each_kind(self):
        up, down, other = [0, 1, 2, 3, 4], [0, 4, 3, 2, 1], [0, 2, 4, 1, 3]
        fine = ((5,), [up, other], 0)
        for kind, system in [
            ("swap", [up, up]), ("twin", [up, down]), ("jump", [up, other, up]), ("jumptwin", [up, other, down]),
        ]:
            self.gives(kind, weights_against, system=((5,), system, 0), other=fine)
            self.gives(None, weights_against, system=fine, other=((5,), system, 0))
            self.gives(False, is_never_worse, system=((5,), system, 0), other=fine)
            self.gives(True, is_never_worse, system=fine, other=((5,), system, 0))

    def test_errors(self):
        for function in (is_never_worse, weights_against):
            self.refuses(function, {"system": THREE, "other": ((2,), [[0, 1], [0, 1]], 0)}, [
                SYSTEM, ("other", InvalidSystem, wrong_systems())])


class BestOrder(Case):
    def check(self, group, tables, kind):
        ways = []
        for order in permutations(range(len(tables))):
            system = (group.orders, [tables[number] for number in order], 0)
            slips = all_slips(group.size, len(tables), kind)
            ways.append((len([slip for slip in slips if shift_by_words(group, system, slip) == 0]), list(order)))
        fewest = min(ways)
        self.gives(fewest[1], best_order, orders=group.orders, tables=tables, kind=kind)
        self.gives(fewest[0], fewest_in_order, orders=group.orders, tables=tables, kind=kind)
        return fewest

    def test_against_all_orders(self):
        random, firsts = Random(560), 0
        for group in GROUPS:
            for many in (2, 3, 4):
                for kind in KINDS:
                    few = [group.table(random) for _ in range(3)]
                    tables = [list(random.choice(few)) for _ in range(many)]
                    firsts += self.check(group, tables, kind)[1] != list(range(many))
        self.assertGreater(firsts, 20)

    def test_words(self):
        up, down = [0, 1, 2, 3, 4], [0, 4, 3, 2, 1]
        tables = [up, up, down, down]
        self.gives([0, 2, 1, 3], best_order, orders=(5,), tables=tables, kind="swap")
        self.gives(0, fewest_in_order, orders=(5,), tables=tables, kind="swap")
        self.gives([0, 1, 2, 3], best_order, orders=(5,), tables=tables, kind="jump")
        self.gives([0, 2, 1, 3], best_order, orders=(5,), tables=tables, kind="jumptwin")
        self.gives([0, 1, 2, 3], best_order, orders=(5,), tables=tables, kind="twin")
        self.gives(20, fewest_in_order, orders=(5,), tables=tables, kind="twin")
        self.gives([0, 1, 2, 3], best_order, orders=(5,), tables=tables, kind="single")
        self.gives(0, fewest_in_order, orders=(5,), tables=tables, kind="single")
        for kind in ("jump", "jumptwin"):
            self.gives([0, 1], best_order, orders=(5,), tables=[up, up], kind=kind)
            self.gives(0, fewest_in_order, orders=(5,), tables=[up, up], kind=kind)

    def test_seven_tables_of_forty_signs(self):
        random = Random(561)
        for orders in [(40,), (2, 2, 10)]:
            group = Group(orders)
            tables = [group.table(random) for _ in range(7)]
            for kind in KINDS:
                with self.within_seconds():
                    order = best_order(orders, tables, kind)
                    many = fewest_in_order(orders, tables, kind)
                costs = {}
                for one, two in permutations(range(7), 2):
                    rows = group.differences if kind in ("swap", "jump") else group.sums
                    row = rows(tables[one], tables[two])
                    costs[one, two] = sum(row.count(entry) - 1 for entry in row) if kind != "single" else 0
                reach = REACHES[kind]
                every = [
                    (sum(costs[pair] for pair in zip(told, told[reach:])) if reach else 0, list(told))
                    for told in permutations(range(7))]
                self.assertEqual(min(every), (many, order))

    def test_errors(self):
        tables = [[0, 1, 2], [0, 2, 1], [1, 2, 0]]
        wrong = [tables[:1], [], tuple(tables), tables[0], [tables], dict(enumerate(tables))]
        wrong += [[tables[0], bad] for bad in wrong_tables(3)] + [[bad, tables[1], tables[2]] for bad in wrong_tables(3)]
        for function in (best_order, fewest_in_order):
            self.refuses(function, {"orders": (3,), "tables": tables, "kind": "swap"}, [
                ("orders", InvalidOrders, wrong_orders()), ("tables", InvalidTable, strange() + wrong), KIND])


if __name__ == "__main__":
    unittest.main()
