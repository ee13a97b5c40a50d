"""What passes in a system, and systems in which no exchange of neighbours does."""

from checkwright.errors import InvalidNumber
from checkwright.groups import check_orders
from checkwright.least import least_passing, least_row
from checkwright.plain import how_many_equal, is_from
from checkwright.systems import check_system
from checkwright.wishes import KINDS, check_wish_kinds, row_by, system_for


def passing_counts(system):
    """For each place but the last one, of how many pairs of signs the swap passes, and the twin."""
    check_system(system)
    orders, tables, _ = system
    counts = []
    for first, second in zip(tables, tables[1:]):
        counts.append(tuple([how_many_equal(row_by(orders, kind, first, second)) for kind in KINDS]))
    return counts


def is_quiet(system):
    """Whether no swap passes."""
    return all([swaps == 0 for swaps, _ in passing_counts(system)])


def quietest(orders, kinds):
    """Any system in which, at each place, as few pairs of the kind that is told for it pass as can."""
    check_orders(orders)
    check_wish_kinds(kinds)
    row = least_row(orders)
    return system_for(orders, list(range(len(row))), [(kind, row) for kind in kinds], 0)


def quiet_system(orders, places):
    """Any quiet system of so many places, None if there is none."""
    check_orders(orders)
    if not is_from(places, 2):
        raise InvalidNumber(places)
    if least_passing(orders) > 0:
        return None
    return quietest(orders, ["swap"] * (places - 1))


def quiet_orders(number):
    """The first orders of a size whose members sum to nought, None if there are none."""
    if not is_from(number, 2):
        raise InvalidNumber(number)
    if number % 2 == 1:
        return (number,)
    return (2, number // 2) if number % 4 == 0 else None
