"""What the tests share: strict comparing, a group of their own, and checks that hold for every function."""

import time
import unittest
from contextlib import contextmanager
from itertools import product
from math import prod

from checkwright.errors import CheckError, InvalidNumber, NothingToUndo, Stuck


class Group:
    """The members of orders, added by their figures as they are gone through in order."""

    def __init__(self, orders):
        self.orders = orders
        self.size = prod(orders)
        self.told = list(product(*[range(order) for order in orders]))
        self.at = {figures: member for member, figures in enumerate(self.told)}

    def add(self, *members):
        columns = zip(self.orders, *[self.told[member] for member in members])
        return self.at[tuple(sum(column[1:]) % column[0] for column in columns)]

    def neg(self, member):
        return self.at[tuple(-figure % order for order, figure in zip(self.orders, self.told[member]))]

    def sub(self, member, other):
        return self.add(member, self.neg(other))

    def total(self, members):
        return self.add(0, *members)

    def differences(self, first, second):
        return [self.sub(one, two) for one, two in zip(first, second)]

    def sums(self, first, second):
        return [self.add(one, two) for one, two in zip(first, second)]

    def even_row(self, random):
        """A drawn row that sums to nought."""
        row = [random.randrange(self.size) for _ in range(self.size - 1)]
        at = random.randrange(self.size)
        return row[:at] + [self.neg(self.total(row))] + row[at:]

    def table(self, random):
        return random.sample(range(self.size), self.size)

    def system(self, random, places):
        return (self.orders, [self.table(random) for _ in range(places)], random.randrange(self.size))

    def sum_of(self, system, code):
        return self.total([table[sign] for table, sign in zip(system[1], code)])

    def codes(self, system):
        return [list(code) for code in product(range(self.size), repeat=len(system[1]))]

    def right_codes(self, system):
        return [code for code in self.codes(system) if self.sum_of(system, code) == system[2]]


def nested(depth, kind):
    value = kind()
    for _ in range(depth - 1):
        value = kind([value])
    return value


def strange():
    """Values that are neither numbers nor anything that an argument of this package may be."""
    return [
        None, True, False, -1, "", " ", "0", "swap", "a\tb\n", {}, {0: 1}, (), (None,), [None], [[]], ((),), [True], (True,),
        nested(30, list), nested(30, tuple), {"swap": [0, 1, 2]}, InvalidNumber(3), CheckError("x"), NothingToUndo(),
        [Stuck((3,))], (InvalidNumber(), [0]),
    ]


def wrong_orders():
    return strange() + [3, [3], (1,), (0,), (-3,), (3, 1), (2, True), ("3",), (3, None), ((3,),), (3, [2]), {3: 3}, "3"]


def wrong_members(size):
    return strange() + [size, size + 1, 10 ** 29, -size, [0], (0,), "1"]


def wrong_rows(size):
    """What is no row of a group of three members or more."""
    row = [0] * size
    return strange() + [
        0, [], row[1:], row + [0], tuple(row), row[1:] + [size], [-1] + row[1:], row[1:] + [True], [False] + row[1:],
        row[1:] + [None], [row], row[1:] + [[0]], dict.fromkeys(range(size), 0), row[1:] + ["0"],
    ]


def wrong_tables(size):
    """What is no list of the numbers below a size of three or more, each once."""
    table = list(range(size))
    return wrong_rows(size) + [
        table[1:], table + [size], table + [0], tuple(table), table[:-1] + [0], [1] + table[1:], table[1:] + [size],
        [False] + table[1:], [0, True] + table[2:], {entry: entry for entry in table},
    ]


def wrong_systems():
    """What is no system, much of it almost one of three signs and three places."""
    up, down = [0, 1, 2], [2, 1, 0]
    return strange() + [
        ((3,), [up, down]), ((3,), [up, down], 0, 0), [(3,), [up, down], 0], ([3], [up, down], 0), ((1,), [[0], [0]], 0),
        ((), [[0], [0]], 0), ((3, 1), [up, down], 0), ((3,), (up, down), 0), ((3,), [up], 0), ((3,), [], 0),
        ((3,), [up, tuple(down)], 0), ((3,), [up, [0, 1]], 0), ((3,), [up, [0, 1, 2, 3]], 0), ((3,), [up, [0, 1, 1]], 0),
        ((3,), [up, [0, 1, 3]], 0), ((3,), [up, [0, True, 2]], 0), ((3,), [up, None], 0), ((3,), [[0, 1, -1], up], 0),
        ((3,), [up, down], 3), ((3,), [up, down], -1), ((3,), [up, down], True), ((3,), [up, down], False),
        ((3,), [up, down], None), ((3,), [up, down], [0]), ((3, True), [up, down], 0), (3, [up, down], 0),
        ((10 ** 29, 10 ** 29), [up, down], 0), ((3,), {0: up, 1: down}, 0),
    ]


def wrong_codes(places, size):
    """What is no number of a system of three places or more."""
    code = [0] * places
    return strange() + [
        0, [], code[1:], code + [0], tuple(code), code[1:] + [size], [-1] + code[1:], [True] + code[1:],
        code[1:] + [False], code[1:] + [None], code[1:] + ["0"], [code], dict.fromkeys(range(places), 0),
    ]


def wrong_slips(places, size):
    return strange() + [
        ("single", 0, 0), ("single", 0, 0, 1, 0), ["single", 0, 0, 1], ("single", 0, 0, 0), ("twin", 0, 1, 1),
        ("single", -1, 0, 1), ("single", places, 0, 1), ("swap", places - 1, 0, 1), ("twin", places - 1, 0, 1),
        ("jump", places - 2, 0, 1), ("jumptwin", places - 2, 0, 1), ("swap", places, 0, 1), ("jump", -1, 0, 1),
        ("single", True, 0, 1), ("single", False, 0, 1), ("single", None, 0, 1), ("single", 0, True, 0),
        ("single", 0, 0, True), ("swap", 0, False, 1), ("single", 0, 0, size), ("single", 0, size, 0),
        ("single", 0, -1, 0), ("single", 0, 0, -1), ("Single", 0, 0, 1), ("", 0, 0, 1), (None, 0, 0, 1),
        (["single"], 0, 0, 1), ({}, 0, 0, 1), ("twins", 0, 0, 1), ("single", 0, [0], 1), ("single", 0, 0, None),
        (0, "single", 0, 1),
    ]


def wrong_places(places):
    """What is not the number of one of so many places."""
    return strange() + [places, places + 1, -places, 10 ** 29, [0], (0,), "1", [1]]


def wrong_counts(least):
    """What is no whole number of at least so much."""
    return strange() + [least - 1, least - 2, -10 ** 29, [least], (least,), str(least), {least: least}]


def wrong_wishes_of_one(size):
    """What is no wish of a group of three members or more."""
    row = [0] * size
    rows = [("swap", bad) for bad in wrong_rows(size)]
    return strange() + rows + [
        ["swap", row], ("swap",), ("swap", row, row), ("jump", row), ("single", row), ("jumptwin", row), ("Swap", row),
        ("", row), (None, row), (0, row), (["swap"], row), ({}, row), (row, "swap"), row, [("swap", row)], (True, row),
    ]


def wrong_wish_lists(size, many):
    """What is no list of so many wishes."""
    wish = ("twin", [0] * size)
    lists = [[wish] * (many - 1) + [bad] for bad in wrong_wishes_of_one(size)]
    return strange() + lists + [0, wish, tuple([wish] * many), {0: wish}, [[wish] * many]]


def wrong_wish_kinds():
    """What is no list, not empty, of kinds of wishes."""
    return strange() + [
        [], "swap", ("swap",), ["jump"], ["swap", "single"], ["jumptwin", "twin"], ["swap", None], ["Swap"], [["swap"]],
        ["swap", 0], [True], {"swap": 1}, [("swap",)], ["swap", ""],
    ]


def wrong_one_wish_kind():
    """What is no kind of wishes."""
    return strange_but("swap") + ["jump", "single", "jumptwin", "Swap", "twins", 0, 1, ["swap"], ("twin",), {"twin": 1}]


def wrong_slip_kinds():
    """What is no kind of slips."""
    return strange_but("swap") + ["Single", "twins", "jump ", "singles", 0, 1, ["swap"], ("twin",), {"twin": 1}, "swaptwin"]


def wrong_groups():
    """What is no group, much of it almost the one of three members."""
    rows = [[0, 1, 2], [1, 2, 0], [2, 0, 1]]
    return strange() + [
        0, [], [0], [[]], [[1]], [[0, 1]], [[0], [0]], [[0, 1], [1]], [[0, 1], [1, 1]], [[1, 0], [0, 1]], [[0, 1], [0, 1]],
        tuple(rows), [tuple(row) for row in rows], rows[:2], rows + [rows[0]], rows[1:] + rows[:1],
        [rows[0], rows[2], rows[1]],
        rows[:2] + [[2, 0]], rows[:2] + [[2, 0, 1, 0]], rows[:2] + [[2, 0, 3]], rows[:2] + [[2, 0, -1]],
        rows[:2] + [[2, 0, True]], rows[:2] + [[2, False, 1]], rows[:2] + [[2, 0, None]], rows[:2] + [None],
        [[0, 1, 2], [1, 0, 2], [2, 2, 0]], {0: rows[0], 1: rows[1], 2: rows[2]}, [rows], [[False]], "012120201",
        [[0, 1, 2, 3, 4], [1, 0, 3, 4, 2], [2, 4, 0, 1, 3], [3, 2, 4, 0, 1], [4, 3, 1, 2, 0]],
    ]


def wrong_squares():
    """What is no square, much of it almost one of three signs."""
    rows = [[2, 0, 1], [0, 1, 2], [1, 2, 0]]
    return strange() + [
        0, [], [0], [[0]], [[]], [[0, 1]], [[0, 1], [0, 1]], [[0, 0], [1, 1]], [[0, 1], [1, 1]], [[1, 2], [2, 1]],
        tuple(rows), [tuple(row) for row in rows], rows[:2], rows + [rows[0]], rows[:2] + [rows[0]], [rows[0]] * 3,
        rows[:2] + [[1, 2]], rows[:2] + [[1, 2, 0, 0]], rows[:2] + [[1, 2, 3]], rows[:2] + [[1, 2, -1]],
        rows[:2] + [[True, 2, 0]], rows[:2] + [[1, 2, False]], rows[:2] + [[1, 2, None]], rows[:2] + [None],
        [[0, 1, 2], [1, 2, 0], [2, 1, 0]], [[0, 1, 2], [2, 0, 1], [1, 0, 2]], {0: rows[0], 1: rows[1], 2: rows[2]}, [rows],
        [row[:] for row in rows[:2]] + ["120"], [[False, True], [True, False]],
    ]


def strange_but(*those):
    return [value for value in strange() if shape(value) not in [shape(one) for one in those]]


def shape(value):
    """A value with all its kinds, so that True and 1, or a list and a tuple, differ."""
    if isinstance(value, (list, tuple)):
        return (type(value).__name__, [shape(one) for one in value])
    if isinstance(value, dict):
        return ("dict", [(shape(key), shape(one)) for key, one in value.items()])
    if isinstance(value, ValueError):
        return (type(value).__name__, shape(getattr(value, "value", None)))
    return (type(value).__name__, value)


def lists_in(value):
    """All list objects in a value, each as often as it occurs."""
    found = [value] if isinstance(value, list) else []
    if isinstance(value, (list, tuple)):
        for one in value:
            found.extend(lists_in(one))
    if isinstance(value, dict):
        for one in value.values():
            found.extend(lists_in(one))
    return found


class Case(unittest.TestCase):
    """Checks that hold for every function of the interface."""

    def same(self, value, wanted):
        self.assertEqual(shape(value), shape(wanted))

    def run_it(self, function, /, **named):
        """The result of a call, once by position and once by names, and that nothing else is touched."""
        given = list(named.values())
        before = shape(given)
        result = function(*given)
        self.assertEqual(shape(given), before)
        kept = shape(result)
        theirs = {id(one) for one in lists_in(given)}
        found = lists_in(result)
        self.assertEqual(len({id(one) for one in found}), len(found), "a list object occurs twice")
        self.assertFalse(theirs & {id(one) for one in found}, "a list of an argument is returned")
        for one in found:
            one.clear()
        self.assertEqual(shape(given), before)
        again = function(**named)
        self.assertEqual(shape(again), kept)
        self.assertEqual(shape(given), before)
        return again

    def gives(self, wanted, function, /, **named):
        self.same(self.run_it(function, **named), wanted)

    def judges(self, function, right, wrong, /, **others):
        """That any value is judged as it should be; the value is the last argument."""
        for value in right:
            self.assertIs(self.run_it(function, **others, value=value), True, value)
        for value in wrong:
            self.assertIs(self.run_it(function, **others, value=value), False, value)

    def raises(self, kind, value, function, /, **named):
        """That a call raises this very error, with this very object in its field, and changes nothing."""
        given = list(named.values())
        before = shape(given)
        for by_names in (False, True):
            try:
                result = function(**named) if by_names else function(*given)
            except CheckError as error:
                self.assertIs(type(error), kind)
                self.assertIs(error.value, value)
            else:
                self.fail(f"{function.__name__}{tuple(given)!r} returned {result!r} instead of {kind.__name__}")
        self.assertEqual(shape(given), before)

    def refuses(self, function, good, wrongs):
        """That each wrong argument is refused, also where all later ones are wrong, too.

        `good` has all arguments in order, `wrongs` tuples of a name, an error and wrong values, in order, too.
        """
        self.run_it(function, **good)
        for at, (name, kind, values) in enumerate(wrongs):
            later = {told: worse[1] for told, _, worse in wrongs[at + 1:]}
            self.assertNotIn(name, later)
            for value in values:
                self.raises(kind, value, function, **{**good, name: value})
                self.raises(kind, value, function, **{**good, **later, name: value})

    def refuses_first(self, function, good, wrongs):
        """The same of a function that judges any value: the other arguments are checked first, whatever it is."""
        for value in (good["value"], None, False, [], (), "word"):
            self.refuses(function, {**good, "value": value}, wrongs)

    @contextmanager
    def within_seconds(self, many=10):
        start = time.monotonic()
        yield
        self.assertLess(time.monotonic() - start, many)
