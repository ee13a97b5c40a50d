"""[1] to [4] over the whole program: each function of the interface refuses or judges whatever it is given first."""

import importlib
import unittest
from itertools import combinations
from random import Random

from checkwright import errors
from checkwright.never import is_quiet_afar, least_caught
from checkwright.quiet import passing_counts
from checkwright.systems import is_system
from checkwright.wishes import keeps_all, system_for
from tests.helper import Case, Group, strange
from tests.test_interface import INTERFACE

REFUSED = {
    "orders": "InvalidOrders", "system": "InvalidSystem", "number": "InvalidNumber", "linear": "InvalidLinear",
    "modulus": "InvalidNumber", "group": "InvalidGroup", "box": "InvalidSystem", "turns": "InvalidNumber",
    "size": "InvalidNumber", "square": "InvalidSquare", "bits": "InvalidNumber", "chain": "InvalidSystem",
    "double": "InvalidLinear", "prime": "InvalidNumber", "alphabet": "InvalidText", "live": "InvalidDeed",
}


def is_fine(name, value):
    """Whether a strange value may stand for an argument after all."""
    if name == "alphabet":
        return value in ("0", "swap")
    return name == "live" and type(value).__name__ == "LiveOffice"


class Whole(Case):
    def functions(self):
        for name, told in INTERFACE.items():
            module = importlib.import_module("checkwright." + name)
            for written in told.split():
                word, names = written[:-1].split("(")
                yield getattr(module, word), names.split(",")

    def test_any_value_at_first(self):
        judging = 0
        for function, names in self.functions():
            for value in strange():
                given = {names[0]: value, **dict.fromkeys(names[1:])}
                if names[0] == "value":
                    self.gives(False, function, **given)
                    judging += 1
                elif not is_fine(names[0], value):
                    self.raises(getattr(errors, REFUSED[names[0]]), value, function, **given)
        self.assertEqual(judging, 8 * len(strange()))

    def test_wishes_for_every_group_and_number_of_places(self):
        random = Random(1)
        for orders in [(2,), (3,), (2, 2), (7,), (2, 3, 2), (13,), (3, 3, 2)]:
            group = Group(orders)
            for places in (2, 3, 8):
                wishes = [(random.choice(["swap", "twin"]), group.even_row(random)) for _ in range(places - 1)]
                system = system_for(orders, group.table(random), wishes, random.randrange(group.size))
                self.assertTrue(is_system(system) and keeps_all(system, wishes))
                every = group.size * (group.size - 1) // 2
                for (kind, row), counts in zip(wishes, passing_counts(system), strict=True):
                    passing = len([pair for pair in combinations(row, 2) if pair[0] == pair[1]])
                    self.assertEqual(counts[("swap", "twin").index(kind)], passing)
                    if passing < every and group.size > 2:
                        self.assertGreaterEqual(every - passing, least_caught(orders))
                if places >= group.size:
                    self.assertFalse(is_quiet_afar(system))


if __name__ == "__main__":
    unittest.main()
