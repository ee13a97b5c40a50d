"""Tables, systems, their numbers, and the slips that can befall these."""

from checkwright.errors import (
    InvalidCode, InvalidNumber, InvalidRow, InvalidSlip, InvalidSystem, InvalidTable, TooMany,
)
from checkwright.groups import are_orders, check_orders
from checkwright.plain import are_below, is_below, is_each_once, is_from, size_of, sum_up

# How far the last place of a slip of each kind lies behind its first one.
REACHES = {"single": 0, "swap": 1, "jump": 2, "twin": 1, "jumptwin": 2}
MOST_LISTED = 2000


def is_table(orders, value):
    """Whether a value is a table."""
    check_orders(orders)
    return is_each_once(value, size_of(orders))


def is_row(orders, value):
    """Whether a value is a row."""
    check_orders(orders)
    return is_row_of(size_of(orders), value)


def is_system(value):
    """Whether a value is a system."""
    if not isinstance(value, tuple) or len(value) != 3:
        return False
    orders, tables, total = value
    if not are_orders(orders) or not isinstance(tables, list) or len(tables) < 2:
        return False
    many = size_of(orders)
    return all([is_each_once(table, many) for table in tables]) and is_below(total, many)


def is_code(system, value):
    """Whether a value is a number of a system."""
    check_system(system)
    return is_code_of(system, value)


def is_slip(system, value):
    """Whether a value is a slip of a system."""
    check_system(system)
    return is_slip_of(system, value)


def sum_of(system, code):
    """The sum of the members of all signs of a number."""
    check_system(system)
    check_code(system, code)
    return sum_borne(system, code)


def is_right(system, code):
    """Whether a number is right."""
    check_system(system)
    check_code(system, code)
    return sum_borne(system, code) == system[2]


def plain_system(orders, places):
    """The system of so many places all of whose tables bear the members in order."""
    check_orders(orders)
    if not is_from(places, 2):
        raise InvalidNumber(places)
    many = size_of(orders)
    return (orders, [list(range(many)) for _ in range(places)], 0)


def can_befall(system, code, slip):
    """Whether a slip can befall a number."""
    check_system(system)
    check_code(system, code)
    check_slip(system, slip)
    return befalls(code, slip)


def slipped(system, code, slip):
    """The number behind a slip that befalls it."""
    check_system(system)
    check_code(system, code)
    check_slip(system, slip)
    if not befalls(code, slip):
        raise InvalidSlip(slip)
    return written(code, slip)


def check_table(orders, table):
    """Raise InvalidTable unless this is a table."""
    if not is_each_once(table, size_of(orders)):
        raise InvalidTable(table)


def check_row(orders, row):
    """Raise InvalidRow unless this is a row."""
    if not is_row_of(size_of(orders), row):
        raise InvalidRow(row)


def check_system(system):
    """Raise InvalidSystem unless this is a system."""
    if not is_system(system):
        raise InvalidSystem(system)


def check_code(system, code):
    """Raise InvalidCode unless this is a number of the system."""
    if not is_code_of(system, code):
        raise InvalidCode(code)


def check_slip(system, slip):
    """Raise InvalidSlip unless this is a slip of the system."""
    if not is_slip_of(system, slip):
        raise InvalidSlip(slip)


def check_kind(kind):
    """Raise InvalidSlip unless this is one of the five kinds of slips."""
    if not is_kind(kind):
        raise InvalidSlip(kind)


def check_kinds_among(told, kinds):
    """Raise InvalidSlip unless kinds are a list, not empty, of some of the told ones, in their order."""
    if not isinstance(kinds, list) or len(kinds) == 0 or kinds != [kind for kind in told if kind in kinds]:
        raise InvalidSlip(kinds)


def check_count(number):
    """Raise InvalidNumber unless this is a count."""
    if not is_from(number, 0):
        raise InvalidNumber(number)


def check_many(many):
    """Raise TooMany with how many they are if these are too many to be listed."""
    if many > MOST_LISTED:
        raise TooMany(many)


def check_start(kind, places, place):
    """Raise InvalidNumber unless a slip of a kind can begin at this one of so many places."""
    if not is_below(place, how_many_starts(kind, places)):
        raise InvalidNumber(place)


def is_row_of(many, value):
    """Whether a value is a list of so many members of a group of this size."""
    return isinstance(value, list) and len(value) == many and are_below(value, many)


def is_code_of(system, value):
    """Whether a value is a number of what is known to be a system."""
    if not isinstance(value, list) or len(value) != len(system[1]):
        return False
    return are_below(value, size_of(system[0]))


def is_slip_of(system, value):
    """Whether a value is a slip of what is known to be a system."""
    return is_slip_among(size_of(system[0]), len(system[1]), value)


def is_slip_among(many, places, value):
    """Whether a value is a slip of numbers with so many signs to take from, and so many places."""
    if not isinstance(value, tuple) or len(value) != 4:
        return False
    kind, place, sign, other = value
    if not is_kind(kind) or not is_below(place, how_many_starts(kind, places)):
        return False
    return is_below(sign, many) and is_below(other, many) and sign != other


def is_kind(value):
    """Whether a value is one of the five kinds of slips."""
    return isinstance(value, str) and value in REACHES


def how_many_starts(kind, places):
    """At how many of so many places, from the first one on, a slip of a kind can begin."""
    return places - REACHES[kind]


def sum_borne(system, code):
    """The sum of the members that the signs of a number bear."""
    return sum_up(system[0], [table[sign] for table, sign in zip(system[1], code)])


def ends_of(slip):
    """The first and the last place of a slip."""
    return slip[1], slip[1] + REACHES[slip[0]]


def signs_ahead(slip):
    """The signs at the first and at the last place ahead of a slip."""
    kind, _, sign, other = slip
    return (sign, other) if kind in ("swap", "jump") else (sign, sign)


def signs_behind(slip):
    """The signs at the first and at the last place behind a slip."""
    kind, _, sign, other = slip
    return (other, sign) if kind in ("swap", "jump") else (other, other)


def gone_back(slip):
    """The slip that takes a slip back."""
    kind, place, sign, other = slip
    return (kind, place, other, sign)


def befalls(code, slip):
    """Whether a number has the signs of a slip at its places."""
    start, end = ends_of(slip)
    return (code[start], code[end]) == signs_ahead(slip)


def written(code, slip):
    """The number behind a slip that is known to befall it."""
    start, end = ends_of(slip)
    behind = list(code)
    behind[start], behind[end] = signs_behind(slip)
    return behind
