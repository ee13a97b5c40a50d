"""Wishes: which differences, or sums, of neighbouring tables come how often."""

from checkwright.errors import InvalidNumber, InvalidWish, Uneven
from checkwright.groups import check_member, check_orders
from checkwright.plain import is_below, minuses, pluses, size_of, sum_up, turned_round
from checkwright.rows import following, following_by_sums
from checkwright.systems import check_system, check_table, is_row_of

KINDS = ("swap", "twin")


def is_wish(orders, value):
    """Whether any value is a wish."""
    check_orders(orders)
    return is_wish_of(orders, value)


def keeps(system, place, wish):
    """Whether the tables at a place and the next one keep a wish."""
    check_wish_at(system, place, wish)
    return keep_wish(system, place, wish)


def keeps_all(system, wishes):
    """Whether a system keeps all wishes."""
    check_system(system)
    orders, tables, _ = system
    if not are_wishes(orders, wishes) or len(wishes) != len(tables) - 1:
        raise InvalidWish(wishes)
    return all([keep_wish(system, place, wish) for place, wish in enumerate(wishes)])


def first_uneven(orders, wishes):
    """The number of the first wish whose row does not sum to nought, None if all do."""
    check_orders(orders)
    check_wishes(orders, wishes)
    return uneven_at(orders, wishes)


def system_for(orders, first, wishes, total):
    """Any system with this first table and total that keeps all wishes."""
    check_orders(orders)
    check_table(orders, first)
    check_wishes(orders, wishes)
    check_member(orders, total)
    uneven = uneven_at(orders, wishes)
    if uneven is not None:
        raise Uneven(wishes[uneven][1])
    tables = [list(first)]
    for wish in wishes:
        tables.append(wished_next(orders, tables[-1], wish))
    return (orders, tables, total)


def extended(system, wish):
    """Any system with one table more, behind all others, such that the last two keep a wish."""
    check_system(system)
    orders, tables, total = system
    check_wish(orders, wish)
    check_even_wish(orders, wish)
    longer = [list(table) for table in tables]
    longer.append(wished_next(orders, tables[-1], wish))
    return (orders, longer, total)


def rewished(system, place, wish):
    """Any system with the same tables up to a place, where a wish is kept, and the same differences behind."""
    check_wish_at(system, place, wish)
    orders, tables, total = system
    check_even_wish(orders, wish)
    # To change the signs of all tables behind in the same way leaves their differences as they are.
    entries = wished_next(orders, tables[place], wish)
    bearers = turned_round(tables[place + 1])
    signs = [bearers[entry] for entry in entries]
    kept = [list(table) for table in tables[:place + 1]]
    return (orders, kept + [[table[sign] for sign in signs] for table in tables[place + 1:]], total)


def check_wish_kind(kind):
    """Raise InvalidWish unless this is a kind of wishes."""
    if kind not in KINDS:
        raise InvalidWish(kind)


def check_wish_kinds(kinds):
    """Raise InvalidWish unless these are a list, not empty, of kinds of wishes."""
    if not isinstance(kinds, list) or len(kinds) == 0 or not all([kind in KINDS for kind in kinds]):
        raise InvalidWish(kinds)


def check_wish(orders, wish):
    """Raise InvalidWish unless this is a wish of the orders."""
    if not is_wish_of(orders, wish):
        raise InvalidWish(wish)


def check_wishes(orders, wishes):
    """Raise InvalidWish unless these are a list, not empty, of wishes of the orders."""
    if not are_wishes(orders, wishes) or len(wishes) == 0:
        raise InvalidWish(wishes)


def check_wish_at(system, place, wish):
    """Raise the error of the first of these arguments that is wrong."""
    check_system(system)
    if not is_below(place, len(system[1]) - 1):
        raise InvalidNumber(place)
    check_wish(system[0], wish)


def check_even_wish(orders, wish):
    """Raise Uneven unless the row of a wish sums to nought."""
    if sum_up(orders, wish[1]) != 0:
        raise Uneven(wish[1])


def is_wish_of(orders, value):
    """Whether any value is a wish of what are known to be orders."""
    if not isinstance(value, tuple) or len(value) != 2:
        return False
    kind, row = value
    return kind in KINDS and is_row_of(size_of(orders), row)


def are_wishes(orders, value):
    """Whether any value is a list, of any length, of wishes."""
    return isinstance(value, list) and all([is_wish_of(orders, wish) for wish in value])


def keep_wish(system, place, wish):
    """Whether the tables at a place and the next one keep what is known to be a wish."""
    orders, tables, _ = system
    kind, row = wish
    return sorted(row_by(orders, kind, tables[place], tables[place + 1])) == sorted(row)


def row_by(orders, kind, first, second):
    """The row on which a kind hangs: the differences of two tables, or their sums."""
    return minuses(orders, first, second) if kind == "swap" else pluses(orders, first, second)


def uneven_at(orders, wishes):
    """The number of the first wish whose row does not sum to nought, None if all do."""
    for at, (_, row) in enumerate(wishes):
        if sum_up(orders, row) != 0:
            return at
    return None


def wished_next(orders, table, wish):
    """A table that keeps a wish, whose row is known to sum to nought, behind another one."""
    kind, row = wish
    if kind == "swap":
        return following(orders, table, row)
    return following_by_sums(orders, table, row)
