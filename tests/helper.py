"""What the tests share: strict comparing, a group of their own, and checks that hold for every function."""

import time
import unittest
from contextlib import contextmanager
from itertools import product
from math import prod

from checkwright.errors import CheckError, InvalidNumber, NothingToUndo, Stuck, TooMany
from checkwright.office import LiveOffice

KINDS = ["single", "swap", "jump", "twin", "jumptwin"]
REACHES = {"single": 0, "swap": 1, "jump": 2, "twin": 1, "jumptwin": 2}


class Group:
    """The members of orders, added by their figures as they are gone through in order."""

    def __init__(self, orders):
        self.orders = orders
        self.size = prod(orders)
        self.told = list(product(*[range(order) for order in orders]))
        self.at = {figures: member for member, figures in enumerate(self.told)}

    def add(self, *members):
        columns = zip(self.orders, *[self.told[member] for member in members])
        return self.at[tuple(sum(column[1:]) % column[0] for column in columns)]

    def neg(self, member):
        return self.at[tuple(-figure % order for order, figure in zip(self.orders, self.told[member]))]

    def sub(self, member, other):
        return self.add(member, self.neg(other))

    def total(self, members):
        return self.add(0, *members)

    def differences(self, first, second):
        return [self.sub(one, two) for one, two in zip(first, second)]

    def sums(self, first, second):
        return [self.add(one, two) for one, two in zip(first, second)]

    def even_row(self, random):
        """A drawn row that sums to nought."""
        row = [random.randrange(self.size) for _ in range(self.size - 1)]
        at = random.randrange(self.size)
        return row[:at] + [self.neg(self.total(row))] + row[at:]

    def table(self, random):
        return random.sample(range(self.size), self.size)

    def system(self, random, places):
        return (self.orders, [self.table(random) for _ in range(places)], random.randrange(self.size))

    def sum_of(self, system, code):
        return self.total([table[sign] for table, sign in zip(system[1], code)])

    def codes(self, system):
        return [list(code) for code in product(range(self.size), repeat=len(system[1]))]

    def right_codes(self, system):
        return [code for code in self.codes(system) if self.sum_of(system, code) == system[2]]


def all_slips(size, places, kind):
    """All slips of a kind, in order."""
    return [
        (kind, place, sign, other) for place in range(places - REACHES[kind])
        for sign, other in product(range(size), repeat=2) if sign != other]


def behind(code, slip):
    """The number behind a slip, None if it can't befall the number."""
    kind, place, sign, other = slip
    last, turned = place + REACHES[kind], list(code)
    if kind in ("swap", "jump"):
        if (code[place], code[last]) != (sign, other):
            return None
        turned[place], turned[last] = other, sign
    else:
        if (code[place], code[last]) != (sign, sign):
            return None
        turned[place] = turned[last] = other
    return turned


def befallen(places, slip):
    """A number that a slip can befall."""
    kind, place, sign, other = slip
    code = [0] * places
    code[place] = sign
    code[place + REACHES[kind]] = other if kind in ("swap", "jump") else sign
    return code


def shift_by_words(group, system, slip):
    """By which member the sum of a number, which a slip can befall, is greater behind it."""
    code = befallen(len(system[1]), slip)
    return group.sub(group.sum_of(system, behind(code, slip)), group.sum_of(system, code))


def drawn_pattern(random, size, places):
    return [sorted(random.sample(range(size), random.randrange(1, size + 1))) for _ in range(places)]


def sums_of_double(double, code):
    prime, columns, _ = double
    return tuple(sum(sign * column[side] for sign, column in zip(code, columns)) % prime for side in (0, 1))


def right_of_double(double):
    prime, columns, totals = double
    return [code for code in product(range(prime), repeat=len(columns)) if sums_of_double(double, code) == totals]


def explained_by_words(double, kinds):
    """For each number that comes of a right one by a slip: the tuples of the slip and the right number, in order."""
    found, every = {}, right_of_double(double)
    for kind in kinds:
        for slip in all_slips(double[0], len(double[1]), kind):
            for right in every:
                code = behind(right, slip)
                if code is not None:
                    found.setdefault(tuple(code), []).append((slip, right))
    return {code: sorted(told) for code, told in found.items()}


def drawn_double(random, prime, places):
    """A drawn double, often with few points."""
    pairs = [(random.randrange(prime), random.randrange(prime)) for _ in range(places)]
    while (0, 0) in pairs or all((a * pairs[0][1] - b * pairs[0][0]) % prime == 0 for a, b in pairs):
        pairs = [(random.randrange(prime), random.randrange(prime)) for _ in range(places)]
    return (prime, pairs, (random.randrange(prime), random.randrange(prime)))


def nested(depth, kind):
    value = kind()
    for _ in range(depth - 1):
        value = kind([value])
    return value


def strange():
    """Values that are neither numbers nor anything that an argument of this package may be."""
    return [
        None, True, False, -1, "", " ", "0", "swap", "a\tb\n", {}, {0: 1}, (), (None,), [None], [[]], ((),), [True], (True,),
        nested(30, list), nested(30, tuple), {"swap": [0, 1, 2]}, InvalidNumber(3), CheckError("x"), NothingToUndo(),
        [Stuck((3,))], (InvalidNumber(), [0]), LiveOffice(((2,), [[0, 1], [1, 0]], 1)), [LiveOffice(((3,), [[0, 1, 2]] * 2, 0))],
    ]


def wrong_orders():
    return strange() + [3, [3], (1,), (0,), (-3,), (3, 1), (2, True), ("3",), (3, None), ((3,),), (3, [2]), {3: 3}, "3"]


def wrong_members(size):
    return strange() + [size, size + 1, 10 ** 29, -size, [0], (0,), "1"]


def wrong_rows(size):
    """What is no row of a group of three members or more."""
    row = [0] * size
    return strange() + [
        0, [], row[1:], row + [0], tuple(row), row[1:] + [size], [-1] + row[1:], row[1:] + [True], [False] + row[1:],
        row[1:] + [None], [row], row[1:] + [[0]], dict.fromkeys(range(size), 0), row[1:] + ["0"],
    ]


def wrong_tables(size):
    """What is no list of the numbers below a size of three or more, each once."""
    table = list(range(size))
    return wrong_rows(size) + [
        table[1:], table + [size], table + [0], tuple(table), table[:-1] + [0], [1] + table[1:], table[1:] + [size],
        [False] + table[1:], [0, True] + table[2:], {entry: entry for entry in table},
    ]


def wrong_systems():
    """What is no system, much of it almost one of three signs and three places."""
    up, down = [0, 1, 2], [2, 1, 0]
    return strange() + [
        ((3,), [up, down]), ((3,), [up, down], 0, 0), [(3,), [up, down], 0], ([3], [up, down], 0), ((1,), [[0], [0]], 0),
        ((), [[0], [0]], 0), ((3, 1), [up, down], 0), ((3,), (up, down), 0), ((3,), [up], 0), ((3,), [], 0),
        ((3,), [up, tuple(down)], 0), ((3,), [up, [0, 1]], 0), ((3,), [up, [0, 1, 2, 3]], 0), ((3,), [up, [0, 1, 1]], 0),
        ((3,), [up, [0, 1, 3]], 0), ((3,), [up, [0, True, 2]], 0), ((3,), [up, None], 0), ((3,), [[0, 1, -1], up], 0),
        ((3,), [up, down], 3), ((3,), [up, down], -1), ((3,), [up, down], True), ((3,), [up, down], False),
        ((3,), [up, down], None), ((3,), [up, down], [0]), ((3, True), [up, down], 0), (3, [up, down], 0),
        ((10 ** 29, 10 ** 29), [up, down], 0), ((3,), {0: up, 1: down}, 0),
    ]


def wrong_codes(places, size):
    """What is no number of a system of three places or more."""
    code = [0] * places
    return strange() + [
        0, [], code[1:], code + [0], tuple(code), code[1:] + [size], [-1] + code[1:], [True] + code[1:],
        code[1:] + [False], code[1:] + [None], code[1:] + ["0"], [code], dict.fromkeys(range(places), 0),
    ]


def wrong_slips(places, size):
    return strange() + [
        ("single", 0, 0), ("single", 0, 0, 1, 0), ["single", 0, 0, 1], ("single", 0, 0, 0), ("twin", 0, 1, 1),
        ("single", -1, 0, 1), ("single", places, 0, 1), ("swap", places - 1, 0, 1), ("twin", places - 1, 0, 1),
        ("jump", places - 2, 0, 1), ("jumptwin", places - 2, 0, 1), ("swap", places, 0, 1), ("jump", -1, 0, 1),
        ("single", True, 0, 1), ("single", False, 0, 1), ("single", None, 0, 1), ("single", 0, True, 0),
        ("single", 0, 0, True), ("swap", 0, False, 1), ("single", 0, 0, size), ("single", 0, size, 0),
        ("single", 0, -1, 0), ("single", 0, 0, -1), ("Single", 0, 0, 1), ("", 0, 0, 1), (None, 0, 0, 1),
        (["single"], 0, 0, 1), ({}, 0, 0, 1), ("twins", 0, 0, 1), ("single", 0, [0], 1), ("single", 0, 0, None),
        (0, "single", 0, 1),
    ]


def wrong_places(places):
    """What is not the number of one of so many places."""
    return strange() + [places, places + 1, -places, 10 ** 29, [0], (0,), "1", [1]]


def wrong_counts(least):
    """What is no whole number of at least so much."""
    return strange() + [least - 1, least - 2, -10 ** 29, [least], (least,), str(least), {least: least}]


def wrong_wishes_of_one(size):
    """What is no wish of a group of three members or more."""
    row = [0] * size
    rows = [("swap", bad) for bad in wrong_rows(size)]
    return strange() + rows + [
        ["swap", row], ("swap",), ("swap", row, row), ("jump", row), ("single", row), ("jumptwin", row), ("Swap", row),
        ("", row), (None, row), (0, row), (["swap"], row), ({}, row), (row, "swap"), row, [("swap", row)], (True, row),
    ]


def wrong_wish_lists(size, many):
    """What is no list of so many wishes."""
    wish = ("twin", [0] * size)
    lists = [[wish] * (many - 1) + [bad] for bad in wrong_wishes_of_one(size)]
    return strange() + lists + [0, wish, tuple([wish] * many), {0: wish}, [[wish] * many]]


def wrong_wish_kinds():
    """What is no list, not empty, of kinds of wishes."""
    return strange() + [
        [], "swap", ("swap",), ["jump"], ["swap", "single"], ["jumptwin", "twin"], ["swap", None], ["Swap"], [["swap"]],
        ["swap", 0], [True], {"swap": 1}, [("swap",)], ["swap", ""],
    ]


def wrong_one_wish_kind():
    """What is no kind of wishes."""
    return strange_but("swap") + ["jump", "single", "jumptwin", "Swap", "twins", 0, 1, ["swap"], ("twin",), {"twin": 1}]


def wrong_slip_kinds():
    """What is no kind of slips."""
    return strange_but("swap") + ["Single", "twins", "jump ", "singles", 0, 1, ["swap"], ("twin",), {"twin": 1}, "swaptwin"]


def wrong_kind_lists(first, second):
    """What is no list, not empty, of two kinds, each once at most, in order."""
    return strange() + [
        [], first, (first,), (first, second), [second, first], [first, first], [first, second, second], [first, "jump"],
        ["jump"], [first, second, "zzz"], [first, None], [first, 0], [True, second], [[first]], {first: 1}, [first + " "],
    ]


def wrong_unlike_kinds():
    """What is no list, not empty, of unlike kinds of slips."""
    return strange() + [
        [], "swap", ("swap",), ["swap", "swap"], KINDS + ["twin"], ["Swap"], ["swap", None], ["swap", 0], [["swap"]],
        ["swap", "twin", "swap"], {"swap": 1}, ["swap", ("twin",)], ["jumps"], ["single", True],
    ]


def wrong_gaps(places, size):
    """What is no number, even with None in the place of some signs."""
    told = [value for value in wrong_codes(places, size) if not isinstance(value, list) or None not in value]
    gaps = [None] * places
    return told + [
        gaps[1:], gaps + [None], gaps + [0], tuple(gaps), gaps[1:] + [size], [-1] + gaps[1:], gaps[1:] + [True], [gaps],
        [False] + gaps[1:], gaps[1:] + ["0"], gaps[1:] + [[]], gaps[1:] + [[None]], dict.fromkeys(range(places)), [[]] * places,
    ]


def wrong_patterns(places, size):
    """What is no pattern of a system of at least three places."""
    told = [[0, size - 1] for _ in range(places)]
    signs = [
        [0, 0], [1, 0], [size], [0, size], [-1], [-1, 0], [True], [False, 1], [0, True], (0, 1), 0, None, True, "0", ["0"], [None],
        {0: 1}, [[0]], [()], "", (),
    ]
    return strange() + [
        0, [], told[1:], told + [[0]], told + [[]], tuple(told), [told], dict(enumerate(told)), [0] * places,
    ] + [told[1:] + [bad] for bad in signs] + [[bad] + told[1:] for bad in signs]


def wrong_doubles():
    """What is no double, much of it almost one modulo five of three columns."""
    columns = [(1, 0), (1, 1), (1, 2)]
    return strange() + [
        (5, columns), (5, columns, (0, 0), 0), [5, columns, (0, 0)], (4, columns, (0, 0)), (1, columns, (0, 0)),
        (0, columns, (0, 0)), (-5, columns, (0, 0)), (True, [(1, 0), (0, 1)], (0, 0)), (1009, columns, (0, 0)), (1000, columns, (0, 0)),
        (993, columns, (0, 0)), (10 ** 29, columns, (0, 0)), ("5", columns, (0, 0)), (None, columns, (0, 0)), ((5,), columns, (0, 0)),
        (5, tuple(columns), (0, 0)), (5, columns[:1], (0, 0)), (5, [], (0, 0)), (5, columns + [(0, 0)], (0, 0)),
        (5, columns + [(5, 0)], (0, 0)), (5, columns + [(0, -1)], (0, 0)), (5, columns + [[1, 3]], (0, 0)),
        (5, columns + [(1,)], (0, 0)), (5, columns + [(1, 2, 3)], (0, 0)), (5, columns + [(True, 1)], (0, 0)),
        (5, columns + [(1, False)], (0, 0)), (5, columns + [None], (0, 0)), (5, columns + [(1, None)], (0, 0)),
        (5, [(1, 2), (1, 2)], (0, 0)), (5, [(1, 2), (2, 4), (3, 1), (4, 3)], (0, 0)), (5, [(0, 1), (0, 4)], (0, 0)),
        (5, [(3, 0), (1, 0), (2, 0)], (0, 0)), (2, [(1, 1), (1, 1)], (0, 0)), (5, columns, [0, 0]), (5, columns, (0,)),
        (5, columns, (0, 0, 0)), (5, columns, (5, 0)), (5, columns, (0, 5)), (5, columns, (-1, 0)), (5, columns, (False, 0)),
        (5, columns, (0, True)), (5, columns, (None, 0)), (5, columns, None), (5, columns, 0), (5, dict(enumerate(columns)), (0, 0)),
    ]


def wrong_primes(bound, beyond):
    """What is no prime below a bound; of the primes, `beyond` is the first one that is none."""
    return strange() + [
        1, 0, -2, -5, 4, 9, 15, 35, bound, beyond, 10 ** 29, 10 ** 29 + 319, "5", [5], (5,), {5: 5},
    ]


def wrong_columns(prime):
    return strange() + [
        (0, 0), (1,), (1, 2, 3), [1, 2], (prime, 1), (1, prime), (-1, 1), (1, -1), (True, 1), (1, True), (False, 1), (1, None),
        ((1, 2),), "12", 1, {1: 2}, ("1", 2), ([1], 2),
    ]


def wrong_totals(prime):
    return strange() + [
        (0,), (0, 0, 0), [0, 0], (prime, 0), (0, prime), (-1, 0), (0, -1), (True, 0), (0, False), (None, 0), (0, None), ((0, 0),),
        "00", 0, {0: 0}, ("0", 0), ([0], 0),
    ]


def wrong_groups():
    """What is no group, much of it almost the one of three members."""
    rows = [[0, 1, 2], [1, 2, 0], [2, 0, 1]]
    return strange() + [
        0, [], [0], [[]], [[1]], [[0, 1]], [[0], [0]], [[0, 1], [1]], [[0, 1], [1, 1]], [[1, 0], [0, 1]], [[0, 1], [0, 1]],
        tuple(rows), [tuple(row) for row in rows], rows[:2], rows + [rows[0]], rows[1:] + rows[:1],
        [rows[0], rows[2], rows[1]],
        rows[:2] + [[2, 0]], rows[:2] + [[2, 0, 1, 0]], rows[:2] + [[2, 0, 3]], rows[:2] + [[2, 0, -1]],
        rows[:2] + [[2, 0, True]], rows[:2] + [[2, False, 1]], rows[:2] + [[2, 0, None]], rows[:2] + [None],
        [[0, 1, 2], [1, 0, 2], [2, 2, 0]], {0: rows[0], 1: rows[1], 2: rows[2]}, [rows], [[False]], "012120201",
        [[0, 1, 2, 3, 4], [1, 0, 3, 4, 2], [2, 4, 0, 1, 3], [3, 2, 4, 0, 1], [4, 3, 1, 2, 0]],
    ]


def wrong_squares():
    """What is no square, much of it almost one of three signs."""
    rows = [[2, 0, 1], [0, 1, 2], [1, 2, 0]]
    return strange() + [
        0, [], [0], [[0]], [[]], [[0, 1]], [[0, 1], [0, 1]], [[0, 0], [1, 1]], [[0, 1], [1, 1]], [[1, 2], [2, 1]],
        tuple(rows), [tuple(row) for row in rows], rows[:2], rows + [rows[0]], rows[:2] + [rows[0]], [rows[0]] * 3,
        rows[:2] + [[1, 2]], rows[:2] + [[1, 2, 0, 0]], rows[:2] + [[1, 2, 3]], rows[:2] + [[1, 2, -1]],
        rows[:2] + [[True, 2, 0]], rows[:2] + [[1, 2, False]], rows[:2] + [[1, 2, None]], rows[:2] + [None],
        [[0, 1, 2], [1, 2, 0], [2, 1, 0]], [[0, 1, 2], [2, 0, 1], [1, 0, 2]], {0: rows[0], 1: rows[1], 2: rows[2]}, [rows],
        [row[:] for row in rows[:2]] + ["120"], [[False, True], [True, False]],
    ]


def strange_but(*those):
    return [value for value in strange() if shape(value) not in [shape(one) for one in those]]


def shape(value):
    """A value with all its kinds, so that True and 1, or a list and a tuple, differ."""
    if isinstance(value, (list, tuple)):
        return (type(value).__name__, [shape(one) for one in value])
    if isinstance(value, dict):
        return ("dict", [(shape(key), shape(one)) for key, one in value.items()])
    if isinstance(value, LiveOffice):
        return ("LiveOffice", shape(value.system()), shape(value.log()))
    if isinstance(value, ValueError):
        return (type(value).__name__, shape(getattr(value, "value", None)))
    return (type(value).__name__, value)


def lists_in(value):
    """All list objects in a value, each as often as it occurs."""
    found = [value] if isinstance(value, list) else []
    if isinstance(value, (list, tuple)):
        for one in value:
            found.extend(lists_in(one))
    if isinstance(value, dict):
        for one in value.values():
            found.extend(lists_in(one))
    return found


class Case(unittest.TestCase):
    """Checks that hold for every function of the interface."""

    def same(self, value, wanted):
        self.assertEqual(shape(value), shape(wanted))

    def run_it(self, function, /, **named):
        """The result of a call, once by position and once by names, and that nothing else is touched."""
        given = list(named.values())
        before = shape(given)
        result = function(*given)
        self.assertEqual(shape(given), before)
        kept = shape(result)
        theirs = {id(one) for one in lists_in(given)}
        found = lists_in(result)
        self.assertEqual(len({id(one) for one in found}), len(found), "a list object occurs twice")
        self.assertFalse(theirs & {id(one) for one in found}, "a list of an argument is returned")
        for one in found:
            one.clear()
        self.assertEqual(shape(given), before)
        again = function(**named)
        self.assertEqual(shape(again), kept)
        self.assertEqual(shape(given), before)
        return again

    def gives(self, wanted, function, /, **named):
        self.same(self.run_it(function, **named), wanted)

    def judges(self, function, right, wrong, /, **others):
        """That any value is judged as it should be; the value is the last argument."""
        for value in right:
            self.assertIs(self.run_it(function, **others, value=value), True, value)
        for value in wrong:
            self.assertIs(self.run_it(function, **others, value=value), False, value)

    def raises(self, kind, value, function, /, **named):
        """That a call raises this very error, with this very object in its field, and changes nothing."""
        given = list(named.values())
        before = shape(given)
        for by_names in (False, True):
            try:
                result = function(**named) if by_names else function(*given)
            except CheckError as error:
                self.assertIs(type(error), kind)
                self.assertIs(error.value, value)
            else:
                self.fail(f"{function.__name__}{tuple(given)!r} returned {result!r} instead of {kind.__name__}")
        self.assertEqual(shape(given), before)

    def too_many(self, many, function, /, **named):
        """That a call raises TooMany with how many there are."""
        before = shape(list(named.values()))
        with self.assertRaises(TooMany) as caught:
            function(**named)
        self.same(caught.exception.value, many)
        self.assertEqual(shape(list(named.values())), before)

    def refuses(self, function, good, wrongs):
        """That each wrong argument is refused, also where all later ones are wrong, too.

        `good` has all arguments in order, `wrongs` tuples of a name, an error and wrong values, in order, too.
        """
        self.run_it(function, **good)
        for at, (name, kind, values) in enumerate(wrongs):
            later = {told: worse[1] for told, _, worse in wrongs[at + 1:]}
            self.assertNotIn(name, later)
            for value in values:
                self.raises(kind, value, function, **{**good, name: value})
                self.raises(kind, value, function, **{**good, **later, name: value})

    def refuses_first(self, function, good, wrongs):
        """The same of a function that judges any value: the other arguments are checked first, whatever it is."""
        for value in (good["value"], None, False, [], (), "word"):
            self.refuses(function, {**good, "value": value}, wrongs)

    @contextmanager
    def within_seconds(self, many=10):
        start = time.monotonic()
        yield
        self.assertLess(time.monotonic() - start, many)
