"""Judging plain values, and adding members that are known to be right.

The modules of the interface check their arguments first and then work with these functions.
"""

from math import gcd


def is_whole(value):
    """Whether a value is a whole number; Python takes a Boolean for an integer, too."""
    return isinstance(value, int) and not isinstance(value, bool)


def is_from(value, least):
    """Whether a value is a whole number of at least so much."""
    return is_whole(value) and value >= least


def is_below(value, many):
    """Whether a value is one of the numbers from 0 to many - 1."""
    return is_whole(value) and 0 <= value < many


def are_below(value, many):
    """Whether a value is a list, of any length, of numbers from 0 to many - 1."""
    return isinstance(value, list) and all([is_below(one, many) for one in value])


def are_below_or_none(value, many):
    """Whether a value is a list, of any length, of numbers from 0 to many - 1 and None."""
    return isinstance(value, list) and all([one is None or is_below(one, many) for one in value])


def is_each_once(value, many):
    """Whether a value is a list of all numbers from 0 to many - 1, each once."""
    # The length comes first: many may have 30 figures.
    if not isinstance(value, list) or len(value) != many:
        return False
    return are_below(value, many) and len(set(value)) == many


def is_prime_below(value, bound):
    """Whether a value is a prime number below a small bound."""
    if not is_from(value, 2) or value >= bound:
        return False
    return all([value % divisor != 0 for divisor in range(2, value)])


def power(base, times):
    """One, so many times multiplied by the base."""
    product = 1
    for _ in range(times):
        product = product * base
    return product


def size_of(orders):
    """The product of the orders."""
    many = 1
    for order in orders:
        many = many * order
    return many


def plus(orders, member, other):
    """The sum of two members, figure by figure from the lowest one on."""
    total, worth = 0, 1
    for order in reversed(orders):
        total = total + (member + other) % order * worth
        member, other, worth = member // order, other // order, worth * order
    return total


def minus(orders, member, other):
    """The member that is to be added to the other one to come to the first one."""
    total, worth = 0, 1
    for order in reversed(orders):
        total = total + (member - other) % order * worth
        member, other, worth = member // order, other // order, worth * order
    return total


def multiple(orders, member, times):
    """A member added to nought so many times."""
    total, worth = 0, 1
    for order in reversed(orders):
        total = total + member * times % order * worth
        member, worth = member // order, worth * order
    return total


def sum_up(orders, members):
    """The sum of all members of a list of any length."""
    total = 0
    for member in members:
        total = plus(orders, total, member)
    return total


def pluses(orders, first, second):
    """The row of the sums of two rows."""
    return [plus(orders, one, two) for one, two in zip(first, second)]


def minuses(orders, first, second):
    """The row of the first row's members less those of the second one."""
    return [minus(orders, one, two) for one, two in zip(first, second)]


def turned_round(table):
    """The list that bears, at each entry of a table, the sign that has this entry."""
    signs = [0] * len(table)
    for sign, entry in enumerate(table):
        signs[entry] = sign
    return signs


def times_each(row):
    """How often each entry of a row comes in it."""
    times = {}
    for entry in row:
        times[entry] = times.get(entry, 0) + 1
    return times


def how_many_pairs(sizes):
    """How many pairs lie each within one of some classes of these sizes."""
    return sum([many * (many - 1) // 2 for many in sizes])


def how_many_equal(row):
    """How many pairs of places of a row have equal entries."""
    return how_many_pairs(list(times_each(row).values()))


def equal_pairs(row):
    """The pairs of places, the lesser one first, at which a row has equal entries, in order."""
    return [(one, two) for one in range(len(row)) for two in range(one + 1, len(row)) if row[one] == row[two]]


def inverse_modulo(number, modulus):
    """What comes to 1 modulo a modulus, times a number that has no divisor above 1 in common with it."""
    rest, divisor, last, times = modulus, number, 0, 1
    while divisor > 0:
        part = rest // divisor
        rest, divisor = divisor, rest - part * divisor
        last, times = times, last - part * times
    return last % modulus


def lowest_terms(top, bottom):
    """The tuple of a share in lowest terms, of a bottom of at least 1."""
    common = gcd(top, bottom)
    return (top // common, bottom // common)


def listed_once(codes):
    """The unlike ones of a list of lists of numbers, in order, each of them a new list."""
    return [list(code) for code in sorted({tuple(code) for code in codes})]


def paired(table, other):
    """The table of the pairs of numbers of two square ones, told as x * len(other) + y, each part for itself."""
    many = len(other)
    return [[entry * many + last for entry in row for last in ending] for row in table for ending in other]
