"""Which numbers of pairs can pass between two neighbouring tables."""

from checkwright.errors import InvalidRow
from checkwright.groups import check_orders
from checkwright.least import are_two_tables, tables_by
from checkwright.plain import how_many_pairs, is_from, multiple, plus, size_of, times_each
from checkwright.systems import check_count, check_row
from checkwright.wishes import check_wish_kind, row_by


def sizes_of(orders, row):
    """How often each member of a row comes in it, descending."""
    check_orders(orders)
    check_row(orders, row)
    return sizes_borne(row)


def can_come(orders, sizes):
    """Whether two tables have a row of differences with these sizes."""
    return members_for(orders, sizes) is not None


def members_for(orders, sizes):
    """The first unlike members, one for each size, that add up to nought if each is taken so often; None if none."""
    check_orders(orders)
    check_sizes(orders, sizes)
    return first_members(orders, sizes)


def tables_with(orders, kind, sizes):
    """Any tuple of two tables whose row of the kind has these sizes, None if they can't come."""
    check_orders(orders)
    check_wish_kind(kind)
    check_sizes(orders, sizes)
    row = row_of_sizes(orders, sizes)
    return None if row is None else tables_by(orders, kind, row)


def is_with(orders, kind, sizes, value):
    """Whether any value is such a tuple."""
    check_orders(orders)
    check_wish_kind(kind)
    check_sizes(orders, sizes)
    if not are_two_tables(orders, value):
        return False
    return sizes_borne(row_by(orders, kind, value[0], value[1])) == sizes


def all_sizes(orders):
    """All sizes that can come, in order."""
    check_orders(orders)
    many = size_of(orders)
    return [sizes for sizes in descending_lists(many, many) if first_members(orders, sizes) is not None]


def all_counts(orders):
    """All numbers of pairs that can pass between two tables, ascending."""
    return sorted({how_many_pairs(sizes) for sizes in all_sizes(orders)})


def tables_passing(orders, kind, number):
    """Any tuple of two tables of which just so many pairs pass, None if there are none."""
    check_orders(orders)
    check_wish_kind(kind)
    check_count(number)
    row = row_passing(orders, number)
    return None if row is None else tables_by(orders, kind, row)


def check_sizes(orders, sizes):
    """Raise InvalidRow unless these are a descending list of numbers from 1 on that add up to the size."""
    if not isinstance(sizes, list) or not all([is_from(many, 1) for many in sizes]):
        raise InvalidRow(sizes)
    if sum(sizes) != size_of(orders) or sizes != sorted(sizes, reverse=True):
        raise InvalidRow(sizes)


def sizes_borne(row):
    """The sizes of what is known to be a row."""
    return sorted(list(times_each(row).values()), reverse=True)


def row_of_sizes(orders, sizes):
    """A row that sums to nought with what are known to be sizes, None if these can't come."""
    members = first_members(orders, sizes)
    if members is None:
        return None
    row = []
    for member, many in zip(members, sizes):
        row.extend([member] * many)
    return row


def row_passing(orders, number):
    """A row that sums to nought by which just so many pairs pass, None if there is none."""
    many = size_of(orders)
    for sizes in descending_lists(many, many):
        if how_many_pairs(sizes) == number:
            row = row_of_sizes(orders, sizes)
            if row is not None:
                return row
    return None


def first_members(orders, sizes):
    """The first members for what are known to be sizes, None if there are none."""
    return members_behind(orders, sizes, [], 0, {})


def members_behind(orders, sizes, taken, total, failed):
    """The first members that begin with those that are taken and come to this total, None if there are none.

    Whether any can follow hangs on which ones are taken, in whatever order, and on their total. So what failed
    once is not gone through again.
    """
    if len(taken) == len(sizes):
        return taken if total == 0 else None
    state = (tuple(sorted(taken)), total)
    if state in failed:
        return None
    for member in range(size_of(orders)):
        if member not in taken:
            next_total = plus(orders, total, multiple(orders, member, sizes[len(taken)]))
            found = members_behind(orders, sizes, taken + [member], next_total, failed)
            if found is not None:
                return found
    failed[state] = True
    return None


def descending_lists(number, most):
    """The descending lists, in order, of numbers from 1 to the most that add up to a number."""
    if number == 0:
        return [[]]
    lists = []
    for first in range(1, min(number, most) + 1):
        lists.extend([[first] + rest for rest in descending_lists(number - first, first)])
    return lists
