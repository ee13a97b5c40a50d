"""[4] and [7]: tables, rows, systems, numbers and slips."""

import unittest
from itertools import product
from random import Random

from checkwright.errors import InvalidCode, InvalidNumber, InvalidOrders, InvalidSlip, InvalidSystem
from checkwright.systems import (
    can_befall, is_code, is_right, is_row, is_slip, is_system, is_table, plain_system, slipped, sum_of,
)
from tests.helper import (
    Case, Group, strange, wrong_codes, wrong_counts, wrong_orders, wrong_rows, wrong_slips, wrong_systems, wrong_tables,
)

KINDS = ("single", "swap", "jump", "twin", "jumptwin")
THREE = ((3,), [[0, 1, 2], [0, 2, 1], [1, 0, 2]], 1)


class TablesAndRows(Case):
    def test_is_table(self):
        self.judges(is_table, [[0, 1, 2], [2, 1, 0], [1, 2, 0]], wrong_tables(3), orders=(3,))
        self.judges(is_table, [list(range(10)), list(range(9, -1, -1))], wrong_tables(10), orders=(2, 5))
        self.judges(is_table, [], wrong_tables(3), orders=(10 ** 29, 10 ** 29))
        for orders in [(2,), (3,), (4,), (2, 2)]:
            many = Group(orders).size
            for told in product(range(-1, many + 1), repeat=many):
                self.assertIs(is_table(orders, list(told)), sorted(told) == list(range(many)))

    def test_is_row(self):
        self.judges(is_row, [[0, 0, 0], [2, 2, 2], [0, 2, 2], [0, 1, 2]], wrong_rows(3), orders=(3,))
        self.judges(is_row, [[0] * 10, [9] * 10], wrong_rows(10), orders=(2, 5))
        self.judges(is_row, [], wrong_rows(3), orders=(10 ** 29, 10 ** 29))
        for orders in [(2,), (3,), (2, 2)]:
            many = Group(orders).size
            for told in product(range(-1, many + 1), repeat=many):
                self.assertIs(is_row(orders, list(told)), min(told) >= 0 and max(told) < many)

    def test_longer_than_the_limit(self):
        self.judges(is_table, [list(range(41))], [], orders=(41,))
        self.judges(is_row, [[40] * 41], [], orders=(41,))

    def test_errors(self):
        for function in (is_table, is_row):
            self.refuses_first(function, {"orders": (3,), "value": [0, 1, 2]}, [("orders", InvalidOrders, wrong_orders())])


class Systems(Case):
    def test_is_system(self):
        table = [0, 1]
        self.judges(is_system, [
            THREE, ((2,), [[0, 1], [1, 0]], 1), ((2,), [table, table], 0), ((2, 2), [[0, 1, 2, 3], [3, 2, 1, 0]], 3),
            ((41,), [list(range(41))] * 41, 40), ((3,), [[0, 1, 2], [0, 1, 2]], 2),
        ], wrong_systems())

    def test_plain_system(self):
        self.gives(((3,), [[0, 1, 2], [0, 1, 2]], 0), plain_system, orders=(3,), places=2)
        self.gives(((2, 2), [[0, 1, 2, 3]] * 5, 0), plain_system, orders=(2, 2), places=5)
        self.gives(((40,), [list(range(40))] * 40, 0), plain_system, orders=(40,), places=40)
        self.refuses(plain_system, {"orders": (3,), "places": 2}, [
            ("orders", InvalidOrders, wrong_orders()), ("places", InvalidNumber, wrong_counts(2))])


class Numbers(Case):
    def test_is_code(self):
        self.judges(is_code, [[0, 0, 0], [2, 2, 2], [0, 1, 2]], wrong_codes(3, 3), system=THREE)
        self.refuses_first(is_code, {"system": THREE, "value": [0, 1, 2]}, [("system", InvalidSystem, wrong_systems())])

    def test_sum_of_and_is_right(self):
        random = Random(7)
        for orders, places in [((2,), 2), ((2,), 5), ((3,), 3), ((2, 2), 3), ((4,), 3), ((2, 3), 2), ((2, 5), 3)]:
            group = Group(orders)
            for _ in range(3):
                system = group.system(random, places)
                for code in group.codes(system):
                    self.assertEqual(sum_of(system, code), group.sum_of(system, code))
                    self.assertIs(is_right(system, code), group.sum_of(system, code) == system[2])
        self.gives(0, sum_of, system=THREE, code=[1, 2, 0])
        self.gives(1, sum_of, system=THREE, code=[0, 2, 1])
        self.gives(True, is_right, system=((3,), [[0, 1, 2], [0, 2, 1]], 0), code=[1, 1])
        self.gives(False, is_right, system=((3,), [[0, 1, 2], [0, 2, 1]], 0), code=[1, 2])

    def test_errors(self):
        for function in (sum_of, is_right):
            self.refuses(function, {"system": THREE, "code": [0, 1, 2]}, [
                ("system", InvalidSystem, wrong_systems()), ("code", InvalidCode, wrong_codes(3, 3))])


class Slips(Case):
    def slips(self, places, size):
        """All slips, told by how far the last place of each kind lies behind its first one."""
        reaches = zip(KINDS, (0, 1, 2, 1, 2))
        signs = [(x, y) for x in range(size) for y in range(size) if x != y]
        return [(kind, place, x, y) for kind, far in reaches for place in range(max(0, places - far)) for x, y in signs]

    def change(self, code, slip):
        """The number behind a slip, None where it can't befall it."""
        kind, place, sign, other = slip
        last = {"single": place, "swap": place + 1, "twin": place + 1}.get(kind, place + 2)
        ahead, behind = {
            "single": ((sign,), (other,)), "swap": ((sign, other), (other, sign)), "jump": ((sign, other), (other, sign)),
            "twin": ((sign, sign), (other, other)), "jumptwin": ((sign, sign), (other, other)),
        }[kind]
        places = (place,) if kind == "single" else (place, last)
        if tuple(code[at] for at in places) != ahead:
            return None
        changed = list(code)
        for at, written in zip(places, behind):
            changed[at] = written
        return changed

    def test_is_slip(self):
        for places, size in [(2, 2), (2, 3), (3, 2), (3, 3), (4, 3)]:
            system = plain_system((size,), places)
            told = self.slips(places, size)
            self.judges(is_slip, told, wrong_slips(places, size), system=system)
            for slip in product(KINDS, range(-1, places + 1), range(-1, size + 1), range(-1, size + 1)):
                self.assertIs(is_slip(system, slip), slip in told, slip)

    def test_the_last_place_of_each_kind(self):
        system = plain_system((10,), 7)
        for kind, last in [("single", 6), ("swap", 5), ("twin", 5), ("jump", 4), ("jumptwin", 4)]:
            self.judges(is_slip, [(kind, 0, 0, 9), (kind, last, 9, 0)], [(kind, last + 1, 9, 0)], system=system)

    def test_what_they_do(self):
        for places, size in [(2, 2), (2, 3), (3, 2), (3, 3), (4, 2)]:
            system = plain_system((size,), places)
            for code in product(range(size), repeat=places):
                for slip in self.slips(places, size):
                    wanted = self.change(code, slip)
                    self.assertIs(can_befall(system, list(code), slip), wanted is not None)
                    if wanted is None:
                        self.raises(InvalidSlip, slip, slipped, system=system, code=list(code), slip=slip)
                    else:
                        self.same(slipped(system, list(code), slip), wanted)

    def test_ordinary_ones(self):
        system = plain_system((2, 5), 5)
        code = [3, 9, 3, 3, 0]
        for slip, behind in [
            (("single", 4, 0, 8), [3, 9, 3, 3, 8]), (("swap", 0, 3, 9), [9, 3, 3, 3, 0]),
            (("swap", 3, 3, 0), [3, 9, 3, 0, 3]), (("jump", 1, 9, 3), [3, 3, 3, 9, 0]),
            (("jump", 2, 3, 0), [3, 9, 0, 3, 3]), (("twin", 2, 3, 7), [3, 9, 7, 7, 0]),
            (("jumptwin", 0, 3, 1), [1, 9, 1, 3, 0]),
        ]:
            self.gives(True, can_befall, system=system, code=code, slip=slip)
            self.gives(behind, slipped, system=system, code=code, slip=slip)

    def test_errors(self):
        self.refuses_first(is_slip, {"system": THREE, "value": ("swap", 0, 1, 2)}, [
            ("system", InvalidSystem, wrong_systems())])
        good = {"system": THREE, "code": [1, 2, 1], "slip": ("swap", 0, 1, 2)}
        wrong = [("system", InvalidSystem, wrong_systems()), ("code", InvalidCode, wrong_codes(3, 3))]
        self.refuses(can_befall, good, wrong + [("slip", InvalidSlip, wrong_slips(3, 3))])
        cannot = [("swap", 0, 2, 1), ("single", 0, 2, 1), ("twin", 0, 1, 2), ("jump", 0, 1, 2), ("jumptwin", 0, 2, 1)]
        self.refuses(slipped, good, wrong + [("slip", InvalidSlip, wrong_slips(3, 3) + cannot)])

    def test_any_value_at_all(self):
        self.judges(is_slip, [], strange(), system=((3,), [[0, 1, 2], [0, 2, 1]], 0))


class Limits(Case):
    def test_forty_signs_and_places(self):
        random = Random(40)
        for orders in [(40,), (2, 2, 10), (2, 2, 2, 5)]:
            group = Group(orders)
            system = group.system(random, 40)
            code = [random.randrange(40) for _ in range(40)]
            with self.within_seconds():
                self.gives(True, is_system, value=system)
                self.gives(group.sum_of(system, code), sum_of, system=system, code=code)
                slip = ("jump", 37, code[37], (code[37] + 1) % 40)
                self.gives(code[39] == slip[3], can_befall, system=system, code=code, slip=slip)


if __name__ == "__main__":
    unittest.main()
