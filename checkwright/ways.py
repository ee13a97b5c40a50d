"""In how many ways wishes can be kept, and systems with told numbers of what passes."""

from math import gcd

from checkwright.classes import row_passing
from checkwright.errors import InvalidNumber, Stuck
from checkwright.groups import check_orders
from checkwright.plain import is_from, minus, multiple, size_of, times_each
from checkwright.systems import check_row
from checkwright.wishes import check_wish_kinds, check_wishes, system_for


def both_quiet(orders, places):
    """Any system of so many places in which neither a swap nor a twin passes, None if there is none."""
    check_orders(orders)
    if not is_from(places, 2):
        raise InvalidNumber(places)
    many = size_of(orders)
    if gcd(many, 6) > 1:
        if 1 in [how_many_divided(orders, 2), how_many_divided(orders, 3)]:
            return None
        raise Stuck(orders)
    # A member, twice it, and it three times come once each; these are all differences and sums but for the sign.
    tables = [[multiple(orders, sign, 1 + place % 2) for sign in range(many)] for place in range(places)]
    return (orders, tables, 0)


def how_many_next(orders, row):
    """How many tables can follow a told one with the members of a row as differences, each as often."""
    check_orders(orders)
    check_row(orders, row)
    return how_many_behind(orders, row)


def how_many_systems(orders, wishes):
    """How many systems with a told first table and a told total keep all wishes."""
    check_orders(orders)
    check_wishes(orders, wishes)
    many = 1
    for _, row in wishes:
        many = many * how_many_behind(orders, row)
    return many


def system_passing(orders, kinds, numbers):
    """Any system in which at each place just so many pairs of its kind pass, None if there is none."""
    check_orders(orders)
    check_wish_kinds(kinds)
    check_numbers(kinds, numbers)
    rows = {}
    for number in numbers:
        if number not in rows:
            rows[number] = row_passing(orders, number)
    if None in [rows[number] for number in numbers]:
        return None
    wishes = [(kind, rows[number]) for kind, number in zip(kinds, numbers)]
    return system_for(orders, list(range(size_of(orders))), wishes, 0)


def check_numbers(kinds, numbers):
    """Raise InvalidNumber unless these are a list of as many counts as there are kinds."""
    if not isinstance(numbers, list) or len(numbers) != len(kinds):
        raise InvalidNumber(numbers)
    if not all([is_from(number, 0) for number in numbers]):
        raise InvalidNumber(numbers)


def how_many_divided(orders, prime):
    """How many orders a prime divides."""
    return len([order for order in orders if order % prime == 0])


def how_many_behind(orders, row):
    """How many tables follow the members in order with the members of a row as differences.

    Member by member, it hangs on what the next table bears so far, told as bits, and on which differences are left,
    in how many ways one can go on; so these ways need not be gone through.
    """
    times = times_each(row)
    entries = list(times)
    ways = {(0, tuple([times[entry] for entry in entries])): 1}
    for member in range(len(row)):
        bits = [1 << minus(orders, member, entry) for entry in entries]
        longer = {}
        for (borne, left), many in ways.items():
            for at, bit in enumerate(bits):
                if left[at] > 0 and borne & bit == 0:
                    state = (borne | bit, left[:at] + (left[at] - 1,) + left[at + 1:])
                    longer[state] = longer.get(state, 0) + many
        ways = longer
    return sum(list(ways.values()))
