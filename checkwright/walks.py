"""How one table comes of another one by changing one difference after another."""

from checkwright.errors import Stuck, Uneven
from checkwright.groups import check_member, check_orders
from checkwright.plain import is_each_once, minus, minuses, plus, sum_up, turned_round
from checkwright.systems import check_row, check_table


def changed(orders, first, second, old, last, new):
    """Any table with the differences of the first one, but new for one old, and the last one made to fit."""
    check_change(orders, first, second, old, last, new)
    missing = missing_one(minuses(orders, first, second), old, last)
    if missing is not None:
        raise Stuck(missing)
    bearing = [first[sign] for sign in turned_round(second)]
    walked = walk(orders, bearing, old, last, new)
    return [walked[member] for member in second]


def is_changed(orders, first, second, old, last, new, value):
    """Whether any value is such a table."""
    check_change(orders, first, second, old, last, new)
    wanted = minuses(orders, first, second)
    if missing_one(wanted, old, last) is not None:
        return False
    wanted.remove(old)
    wanted.remove(last)
    wanted = wanted + [new, minus(orders, plus(orders, last, old), new)]
    return has_differences(orders, value, second, wanted)


def rounds(orders, row):
    """Any list of tables that come to the members of a row by one change each, from the members in order on."""
    check_orders(orders)
    check_row(orders, row)
    if sum_up(orders, row) != 0:
        raise Uneven(row)
    return walked_rounds(orders, row)


def are_rounds(orders, row, value):
    """Whether any value is such a list."""
    check_orders(orders)
    check_row(orders, row)
    if sum_up(orders, row) != 0 or not isinstance(value, list) or len(value) != len(row):
        return False
    plain = list(range(len(row)))
    for at, table in enumerate(value):
        told = row[:at]
        noughts = [0] * (len(row) - 1 - at)
        wanted = told + noughts + [minus(orders, 0, sum_up(orders, told))]
        if not has_differences(orders, table, plain, wanted):
            return False
    return True


def check_change(orders, first, second, old, last, new):
    """Raise the error of the first argument of a change that is wrong."""
    check_orders(orders)
    check_table(orders, first)
    check_table(orders, second)
    for member in (old, last, new):
        check_member(orders, member)


def missing_one(told, old, last):
    """Which of two differences, the old one first, has no sign of its own; None if both have."""
    if old not in told:
        return old
    if last not in told or (last == old and told.count(old) == 1):
        return last
    return None


def has_differences(orders, value, second, wanted):
    """Whether any value is a table whose differences, it less the second, are the wanted ones in whatever order."""
    if not is_each_once(value, len(second)):
        return False
    return sorted(minuses(orders, value, second)) == sorted(wanted)


def walked_rounds(orders, row):
    """The rounds of a row that is known to sum to nought."""
    bearing, lack = list(range(len(row))), 0
    tables = [bearing]
    for entry in row[:-1]:
        bearing = walk(orders, bearing, 0, lack, entry)
        lack = minus(orders, lack, entry)
        tables.append(bearing)
    return tables


def walk(orders, bearing, old, last, new):
    """What the members bear behind a change, of what they bear now.

    Two members give up what they bear, with the differences old and last. The first one takes what makes the
    difference new; whoever bore this waits behind the second one, who is to have the difference that was lost.
    """
    bearing = list(bearing)
    told = minuses(orders, bearing, list(range(len(bearing))))
    taker = told.index(old)
    waiter = [member for member, one in enumerate(told) if one == last and member != taker][0]
    bearers = turned_round(bearing)
    free = [bearing[taker], bearing[waiter]]
    wanted = plus(orders, taker, new)
    while wanted not in free:
        loser = bearers[wanted]
        bearing[taker], bearers[wanted] = wanted, taker
        taker, wanted, waiter = waiter, plus(orders, waiter, minus(orders, wanted, loser)), loser
    free.remove(wanted)
    bearing[taker], bearing[waiter] = wanted, free[0]
    return bearing
