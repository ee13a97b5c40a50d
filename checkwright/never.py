"""What never comes: the least that is caught, and exchanges between any two places."""

from checkwright.errors import InvalidNumber
from checkwright.groups import check_orders
from checkwright.least import halves, tables_by
from checkwright.plain import equal_pairs, is_below, is_from, is_prime_below, minus, minuses, size_of
from checkwright.systems import check_system
from checkwright.wishes import check_wish_kind

PRIME_BOUND = 40


def least_caught(orders):
    """The least number of pairs that do not pass between two tables of which not all pass, None for two signs."""
    check_orders(orders)
    many = size_of(orders)
    if many == 2:
        return None
    return 2 * many - 4 if many % 2 == 0 else 2 * many - 3


def barely_caught(orders, kind):
    """Any tuple of two tables of which just so many pairs do not pass, None for two signs."""
    check_orders(orders)
    check_wish_kind(kind)
    many = size_of(orders)
    if many == 2:
        return None
    # All members of the row but two are alike; these two are alike, too, if a member is its own opposite.
    one = halves(orders)[0] if many % 2 == 0 else 1
    return tables_by(orders, kind, [0] * (many - 2) + [one, minus(orders, 0, one)])


def passing_afar(system, place, other):
    """The pairs of signs, in order, whose exchange between two places passes."""
    check_system(system)
    places = len(system[1])
    if not is_below(place, places - 1):
        raise InvalidNumber(place)
    if not is_below(other, places) or other <= place:
        raise InvalidNumber(other)
    return passing_between(system, place, other)


def is_quiet_afar(system):
    """Whether no exchange of unlike signs at any two places passes."""
    check_system(system)
    places = len(system[1])
    for place in range(places):
        if not all([passing_between(system, place, other) == [] for other in range(place + 1, places)]):
            return False
    return True


def afar_system(prime, places):
    """Any system of a prime number of signs that is quiet at any two places, None if there are too many places."""
    if not is_prime_below(prime, PRIME_BOUND):
        raise InvalidNumber(prime)
    if not is_from(places, 2):
        raise InvalidNumber(places)
    if places >= prime:
        return None
    return ((prime,), [[(place + 1) * sign % prime for sign in range(prime)] for place in range(places)], 0)


def passing_between(system, place, other):
    """The pairs of signs whose exchange between what are known to be two places passes."""
    orders, tables, _ = system
    return equal_pairs(minuses(orders, tables[place], tables[other]))
