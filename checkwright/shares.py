"""Which share of the slips of a system passes, and tables put into the best order."""

from itertools import permutations

from checkwright.errors import InvalidNumber, InvalidTable
from checkwright.groups import check_orders
from checkwright.plain import how_many_equal, is_each_once, is_from, lowest_terms, size_of
from checkwright.slips import counts_by, possible_by, row_of_tables
from checkwright.systems import REACHES, check_kind, check_system


def share_of(system, kind):
    """The share, in lowest terms, of the slips of a kind that pass."""
    check_system(system)
    check_kind(kind)
    return share_by(system, kind)


def share_unseen(system, weights):
    """The share, in lowest terms, of all slips that pass, if each kind comes as often as its weight tells."""
    check_system(system)
    check_weights(weights)
    top, bottom = 0, 1
    for kind, weight in zip(list(REACHES), weights):
        passed, many = share_by(system, kind)
        top, bottom = top * many + weight * passed * bottom, bottom * many
    return lowest_terms(top, bottom * sum(weights))


def is_never_worse(system, other):
    """Whether for all weights the unseen share of a system is at most that of another one."""
    return weights_against(system, other) is None


def weights_against(system, other):
    """The first kind of which the first system lets a greater share pass, None if there is none."""
    check_system(system)
    check_system(other)
    for kind in REACHES:
        passed, many = share_by(system, kind)
        theirs, others = share_by(other, kind)
        if passed * others > theirs * many:
            return kind
    return None


def best_order(orders, tables, kind):
    """The first order, told by their numbers, of some tables by which the fewest slips of a kind pass."""
    return best_way(orders, tables, kind)[1]


def fewest_in_order(orders, tables, kind):
    """How many slips of a kind pass if the tables stand in the best order."""
    return best_way(orders, tables, kind)[0]


def check_weights(weights):
    """Raise InvalidNumber unless these are five counts, not all 0."""
    if not isinstance(weights, tuple) or len(weights) != len(REACHES):
        raise InvalidNumber(weights)
    if not all([is_from(weight, 0) for weight in weights]) or sum(weights) == 0:
        raise InvalidNumber(weights)


def check_tables(orders, tables):
    """Raise InvalidTable unless these are a list of at least two tables."""
    if not isinstance(tables, list) or len(tables) < 2:
        raise InvalidTable(tables)
    if not all([is_each_once(table, size_of(orders)) for table in tables]):
        raise InvalidTable(tables)


def share_by(system, kind):
    """The share, in lowest terms, of the slips of what is known to be a kind that pass."""
    return lowest_terms(sum(counts_by(system, kind)), max(1, possible_by(system, kind)))


def best_way(orders, tables, kind):
    """How many slips of a kind pass in the best order of some tables, and this order."""
    check_orders(orders)
    check_tables(orders, tables)
    check_kind(kind)
    costs = [[2 * how_many_equal(row_of_tables(orders, kind, first, last)) for last in tables] for first in tables]
    reach, ways = REACHES[kind], []
    for order in permutations(range(len(tables))):
        ways.append((sum([costs[one][two] for one, two in zip(order, order[reach:])]), list(order)))
    return min(ways)
