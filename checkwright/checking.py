"""A system at work: what is right, and systems turned about, cut and joined."""

from checkwright.errors import InvalidNumber, InvalidOrders, InvalidRow, InvalidTable, Stuck
from checkwright.groups import check_member
from checkwright.plain import is_below, is_each_once, minus, plus, power, size_of
from checkwright.systems import check_code, check_system, sum_borne


def off_by(system, code):
    """The member that is to be added to the total to come to the sum of a number."""
    check_system(system)
    check_code(system, code)
    return minus(system[0], sum_borne(system, code), system[2])


def sign_wanted(system, code, place):
    """The sign that has to stand at a place for the number to be right."""
    check_system(system)
    check_code(system, code)
    check_place(system, place)
    return wanted_at(system, code, place)


def set_right(system, code, place):
    """The number with the sign at a place that makes it right."""
    check_system(system)
    check_code(system, code)
    check_place(system, place)
    return set_at(system, code, place)


def how_many_codes(system):
    """How many right numbers there are."""
    check_system(system)
    return power(size_of(system[0]), len(system[1]) - 1)


def with_signs(system, names):
    """The system in which each sign x is written names[x]."""
    check_system(system)
    orders, tables, total = system
    if not is_each_once(names, size_of(orders)):
        raise InvalidTable(names)
    return (orders, [renamed_table(table, names) for table in tables], total)


def reordered(system, places):
    """The system whose place i is place places[i] of this one."""
    check_system(system)
    orders, tables, total = system
    if not is_each_once(places, len(tables)):
        raise InvalidRow(places)
    return (orders, [list(tables[place]) for place in places], total)


def added_to(system, place, member):
    """The system with a member added to each entry of a place's table, and to the total."""
    check_system(system)
    check_place(system, place)
    orders, tables, total = system
    check_member(orders, member)
    moved = copied(tables)
    moved[place] = [plus(orders, entry, member) for entry in tables[place]]
    return (orders, moved, plus(orders, total, member))


def fixed_at(system, place, sign):
    """The system without a place, at which a sign is taken to stand."""
    check_system(system)
    check_place(system, place)
    orders, tables, total = system
    if not is_below(sign, size_of(orders)):
        raise InvalidNumber(sign)
    if len(tables) == 2:
        raise Stuck(system)
    return (orders, copied(tables[:place] + tables[place + 1:]), minus(orders, total, tables[place][sign]))


def put_together(system, other):
    """The system of the places of both, with the totals of both added."""
    check_system(system)
    check_system(other)
    orders, tables, total = system
    if other[0] != orders:
        raise InvalidOrders(other[0])
    return (orders, copied(tables + other[1]), plus(orders, total, other[2]))


def check_place(system, place):
    """Raise InvalidNumber unless this is a place of the system."""
    if not is_below(place, len(system[1])):
        raise InvalidNumber(place)


def wanted_at(system, code, place):
    """The sign that has to stand at what is known to be a place."""
    orders, tables, total = system
    excess = minus(orders, sum_borne(system, code), total)
    table = tables[place]
    return table.index(minus(orders, table[code[place]], excess))


def set_at(system, code, place):
    """The number with the sign at what is known to be a place that makes it right."""
    return code[:place] + [wanted_at(system, code, place)] + code[place + 1:]


def copied(tables):
    """New lists with the same entries."""
    return [list(table) for table in tables]


def renamed_table(table, names):
    """The table that bears for the sign names[x] what this one bears for x."""
    renamed = [0] * len(table)
    for entry, name in zip(table, names):
        renamed[name] = entry
    return renamed
