"""Dihedral groups, antisymmetric maps, and the quiet boxes that these give."""

from checkwright.errors import InvalidMember, InvalidNumber, InvalidTable, Stuck
from checkwright.grouped import check_group, do_commute, group_of, multiplied
from checkwright.plain import is_below, is_each_once, is_from
from checkwright.quiet import quiet_orders
from checkwright.rows import following
from checkwright.systems import check_count


def dihedral(turns):
    """The group of so many turns and as many mirrors."""
    check_turns(turns)
    return [product_row(turns, member) for member in range(2 * turns)]


def dihedral_map(turns, shift):
    """The table of the dihedral group that turns the turns back and shifts the mirrors."""
    check_turns(turns)
    check_count(shift)
    return [-turn % turns for turn in range(turns)] + [turns + (turn + shift) % turns for turn in range(turns)]


def is_antisymmetric(group, value):
    """Whether any value is an antisymmetric table of the members of a group."""
    check_group(group)
    if not is_each_once(value, len(group)):
        return False
    return all([fits_behind(group, value[:member], entry) for member, entry in enumerate(value)])


def first_map(group):
    """The first antisymmetric table, in order, None if there is none."""
    check_group(group)
    # No need to go through all tables where the sum of all members tells that there is none.
    if do_commute(group) and multiplied(group, list(range(len(group)))) != 0:
        return None
    return map_behind(group, [])


def box_of(group, table, places, total):
    """The box whose tables are the members in order, then a table applied once, twice and so on."""
    check_group(group)
    if not is_each_once(table, len(group)):
        raise InvalidTable(table)
    check_box_places(places)
    if not is_below(total, len(group)):
        raise InvalidMember(total)
    return box_by_map(group, table, places, total)


def quiet_box(size, places, total):
    """Any quiet box with so many signs and places, and this total."""
    if not is_from(size, 2):
        raise InvalidNumber(size)
    check_box_places(places)
    if not is_below(total, size):
        raise InvalidMember(total)
    if size == 2:
        raise Stuck(size)
    orders = quiet_orders(size)
    if orders is None:
        turns = size // 2
        return box_by_map(dihedral(turns), dihedral_map(turns, 1), places, total)
    plain = list(range(size))
    return box_by_map(group_of(orders), following(orders, plain, plain), places, total)


def check_turns(turns):
    """Raise InvalidNumber unless a dihedral group can have so many turns."""
    if not is_from(turns, 3):
        raise InvalidNumber(turns)


def check_box_places(places):
    """Raise InvalidNumber unless a box can have so many places."""
    if not is_from(places, 2):
        raise InvalidNumber(places)


def product_row(turns, member):
    """The products of a member of a dihedral group with all members."""
    if member < turns:
        ahead = [(member + turn) % turns for turn in range(turns)]
        return ahead + [turns + turn for turn in ahead]
    back = [(member - turn) % turns for turn in range(turns)]
    return [turns + turn for turn in back] + back


def fits_behind(group, told, entry):
    """Whether an entry makes other products than those of a map that are told ahead of it."""
    member = len(told)
    return all([group[one][entry] != group[member][before] for one, before in enumerate(told)])


def map_behind(group, told):
    """The first antisymmetric table that begins with told entries, None if there is none."""
    if len(told) == len(group):
        return told
    for entry in range(len(group)):
        if entry not in told and fits_behind(group, told, entry):
            found = map_behind(group, told + [entry])
            if found is not None:
                return found
    return None


def box_by_map(group, table, places, total):
    """The box of a table that is known to fit its group."""
    tables = [list(range(len(group)))]
    for _ in range(places - 1):
        tables.append([table[entry] for entry in tables[-1]])
    return ([list(row) for row in group], tables, total)
