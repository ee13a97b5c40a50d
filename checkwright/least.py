"""How few pairs of signs can pass between two neighbouring tables, and which ones do."""

from checkwright.groups import check_orders
from checkwright.plain import equal_pairs, how_many_equal, is_each_once, size_of
from checkwright.systems import check_table
from checkwright.wishes import check_wish_kind, row_by, wished_next


def halves(orders):
    """The members, but nought, that are their own opposites, in order."""
    check_orders(orders)
    found, worth = [0], 1
    # The lowest figure comes first, so each half is greater than all that were found ahead of it.
    for order in reversed(orders):
        if order % 2 == 0:
            half = order // 2 * worth
            found = found + [member + half for member in found]
        worth = worth * order
    return found[1:]


def sum_of_all(orders):
    """The sum of all members."""
    return halves(orders)[0] if least_passing(orders) == 1 else 0


def least_passing(orders):
    """The least number of pairs that pass, of any two tables."""
    check_orders(orders)
    evens = [order for order in orders if order % 2 == 0]
    return 1 if len(evens) == 1 else 0


def best_tables(orders, kind):
    """Any tuple of two tables with the least number of pairs that pass."""
    check_orders(orders)
    check_wish_kind(kind)
    return tables_by(orders, kind, least_row(orders))


def is_best(orders, kind, value):
    """Whether any value is such a tuple."""
    check_orders(orders)
    check_wish_kind(kind)
    if not are_two_tables(orders, value):
        return False
    return how_many_equal(row_by(orders, kind, value[0], value[1])) == least_passing(orders)


def passing_pairs(orders, kind, first, second):
    """The pairs that pass, in order."""
    check_pair(orders, kind, first, second)
    return equal_pairs(row_by(orders, kind, first, second))


def how_many_pass(orders, kind, first, second):
    """How many pairs pass."""
    check_pair(orders, kind, first, second)
    return how_many_equal(row_by(orders, kind, first, second))


def check_pair(orders, kind, first, second):
    """Raise the error of the first of these arguments that is wrong."""
    check_orders(orders)
    check_wish_kind(kind)
    check_table(orders, first)
    check_table(orders, second)


def are_two_tables(orders, value):
    """Whether any value is a tuple of two tables."""
    if not isinstance(value, tuple) or len(value) != 2:
        return False
    return all([is_each_once(table, size_of(orders)) for table in value])


def tables_by(orders, kind, row):
    """Two tables whose row of a kind has the members of a row that is known to sum to nought."""
    first = list(range(len(row)))
    return (first, wished_next(orders, first, (kind, row)))


def least_row(orders):
    """A row that sums to nought in which as few members as can be come again."""
    row = list(range(size_of(orders)))
    # What the members sum to, and nothing else, has to be left out of the sum.
    row[sum_of_all(orders)] = 0
    return row
