"""Which rows of differences, and of sums, two tables can have."""

from checkwright.errors import Uneven
from checkwright.groups import check_orders
from checkwright.plain import is_each_once, minus, minuses, pluses, sum_up, turned_round
from checkwright.systems import check_row, check_table
from checkwright.walks import walked_rounds


def differences(orders, first, second):
    """The row of the members of one table less those of another one."""
    check_orders(orders)
    check_table(orders, first)
    check_table(orders, second)
    return minuses(orders, first, second)


def sums(orders, first, second):
    """The row of the members of two tables added."""
    check_orders(orders)
    check_table(orders, first)
    check_table(orders, second)
    return pluses(orders, first, second)


def row_can_come(orders, row):
    """Whether there are two tables with a row as their differences."""
    check_orders(orders)
    check_row(orders, row)
    return sum_up(orders, row) == 0


def tables_of(orders, row):
    """Any tuple of two tables whose differences are a row, sign by sign."""
    check_orders(orders)
    check_row(orders, row)
    check_even(orders, row)
    bearing = borne_by_members(orders, row)
    members = [[] for _ in row]
    for member, entry in enumerate(minuses(orders, bearing, list(range(len(row))))):
        members[entry].append(member)
    second = [members[entry].pop() for entry in row]
    return ([bearing[member] for member in second], second)


def are_tables_of(orders, row, value):
    """Whether any value is such a tuple."""
    check_orders(orders)
    check_row(orders, row)
    if not isinstance(value, tuple) or len(value) != 2:
        return False
    first, second = value
    if not is_each_once(first, len(row)) or not is_each_once(second, len(row)):
        return False
    return minuses(orders, first, second) == row


def next_table(orders, table, row):
    """Any table such that the differences of the first one and it have the members of a row."""
    check_table_and_row(orders, table, row)
    check_even(orders, row)
    return following(orders, table, row)


def is_next(orders, table, row, value):
    """Whether any value is such a table."""
    check_table_and_row(orders, table, row)
    if not is_each_once(value, len(table)):
        return False
    return sorted(minuses(orders, table, value)) == sorted(row)


def next_by_sums(orders, table, row):
    """Any table such that the sums of the first one and it have the members of a row."""
    check_table_and_row(orders, table, row)
    check_even(orders, row)
    return following_by_sums(orders, table, row)


def is_next_by_sums(orders, table, row, value):
    """Whether any value is such a table."""
    check_table_and_row(orders, table, row)
    if not is_each_once(value, len(table)):
        return False
    return sorted(pluses(orders, table, value)) == sorted(row)


def by_signs(orders, table, row):
    """The table such that the differences of the first one and it are a row, sign by sign; None if there is none."""
    check_table_and_row(orders, table, row)
    second = minuses(orders, table, row)
    return second if is_each_once(second, len(table)) else None


def check_table_and_row(orders, table, row):
    """Raise the error of the first of these arguments that is wrong."""
    check_orders(orders)
    check_table(orders, table)
    check_row(orders, row)


def check_even(orders, row):
    """Raise Uneven unless a row sums to nought."""
    if sum_up(orders, row) != 0:
        raise Uneven(row)


def borne_by_members(orders, row):
    """What each member bears so that the members borne, less those that bear them, are those of a row."""
    return walked_rounds(orders, row)[-1]


def following(orders, table, row):
    """A next table of a row that is known to sum to nought."""
    bearers = turned_round(borne_by_members(orders, row))
    return [bearers[entry] for entry in table]


def following_by_sums(orders, table, row):
    """A next table by sums: less the opposite is as much as added."""
    return [minus(orders, 0, entry) for entry in following(orders, table, row)]
