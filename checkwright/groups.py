"""Orders, their members, and how members are added."""

from math import gcd, lcm

from checkwright.errors import InvalidMember, InvalidNumber, InvalidOrders, InvalidRow
from checkwright.plain import are_below, is_below, is_from, minus, plus, size_of, sum_up


def are_orders(value):
    """Whether a value are orders."""
    if not isinstance(value, tuple) or len(value) == 0:
        return False
    return all([is_from(order, 2) for order in value])


def is_member(orders, value):
    """Whether a value is a member."""
    check_orders(orders)
    return is_below(value, size_of(orders))


def size(orders):
    """How many members there are."""
    check_orders(orders)
    return size_of(orders)


def figures(orders, member):
    """The tuple of the figures of a member, the highest one first."""
    check_orders(orders)
    check_member(orders, member)
    told, rest = [], member
    for order in reversed(orders):
        told.append(rest % order)
        rest = rest // order
    return tuple(told[::-1])


def member_of(orders, told):
    """The member with told figures."""
    check_orders(orders)
    if not are_figures(orders, told):
        raise InvalidNumber(told)
    member = 0
    for order, figure in zip(orders, told):
        member = member * order + figure
    return member


def added(orders, member, other):
    """The sum of two members."""
    check_orders(orders)
    check_member(orders, member)
    check_member(orders, other)
    return plus(orders, member, other)


def opposite(orders, member):
    """The member that makes nought together with this one."""
    check_orders(orders)
    check_member(orders, member)
    return minus(orders, 0, member)


def total_of(orders, row):
    """The sum of all members of a list of any length."""
    check_orders(orders)
    if not are_below(row, size_of(orders)):
        raise InvalidRow(row)
    return sum_up(orders, row)


def order_of(orders, member):
    """How many times a member is to be added to nought, at least, to come to nought."""
    times = 1
    for order, figure in zip(orders, figures(orders, member)):
        times = lcm(times, order // gcd(order, figure))
    return times


def same_group(orders, other):
    """Whether two groups are the same but for the names of their members."""
    check_orders(orders)
    check_orders(other)
    return dividing_chain(orders) == dividing_chain(other)


def check_orders(orders):
    """Raise InvalidOrders unless these are orders."""
    if not are_orders(orders):
        raise InvalidOrders(orders)


def check_member(orders, member):
    """Raise InvalidMember unless this is a member."""
    if not is_below(member, size_of(orders)):
        raise InvalidMember(member)


def are_figures(orders, value):
    """Whether a value is a tuple of figures, one for each order."""
    if not isinstance(value, tuple) or len(value) != len(orders):
        return False
    return all([is_below(figure, order) for order, figure in zip(orders, value)])


def dividing_chain(orders):
    """The orders of the same group of which each one divides the next one.

    Two orders may always give way to their greatest common divisor and their least common multiple, since each
    power of a prime divides as many of these. So primes need not be known, which 30 figures would hide.
    """
    chain = list(orders)
    for low in range(len(chain)):
        for high in range(low + 1, len(chain)):
            one, two = chain[low], chain[high]
            chain[low], chain[high] = gcd(one, two), lcm(one, two)
    return [order for order in chain if order > 1]
