"""Slips told apart by two sums modulo a prime, and doubles that do it."""

from itertools import combinations

from checkwright.doubles import (
    KINDS, check_double, check_prime, crossed, explaining, is_code_of_double, is_column, is_pair, point_by,
    steps_between, taken,
)
from checkwright.errors import InvalidMember, InvalidNumber, InvalidRow
from checkwright.plain import inverse_modulo, is_from
from checkwright.systems import check_kinds_among, is_slip_among


def two_ways(double, kinds):
    """Any tuple of a number and of two unlike slips, in order, that explain it, None if there is none."""
    check_double(double)
    check_kinds_among(KINDS, kinds)
    moves = moves_of(double, kinds)
    for one, other in combinations(moves, 2):
        code = code_of_both(double, one, other)
        if code is not None:
            slips = explaining(double, kinds, code)
            return (code, slips[0], slips[1])
    return None


def are_two_ways(double, kinds, value):
    """Whether any value is such a tuple."""
    check_double(double)
    check_kinds_among(KINDS, kinds)
    if not isinstance(value, tuple) or len(value) != 3:
        return False
    code, one, other = value
    prime, columns, _ = double
    if not is_code_of_double(double, code):
        return False
    if not is_slip_among(prime, len(columns), one) or not is_slip_among(prime, len(columns), other):
        return False
    slips = explaining(double, kinds, code)
    return one in slips and other in slips and one < other


def unseen_swaps(double):
    """The places, ascending, at which exchanges of neighbours pass."""
    check_double(double)
    columns = double[1]
    return [place for place in range(len(columns) - 1) if columns[place] == columns[place + 1]]


def by_points(prime, points, totals):
    """Any double whose columns and differences of neighbours are, in turn, of told points."""
    check_prime(prime)
    if not are_points(prime, points):
        raise InvalidRow(points)
    check_totals(prime, totals)
    return (prime, columns_by(prime, points), totals)


def all_points(prime, totals):
    """The double whose columns are all points, in order."""
    check_prime(prime)
    check_totals(prime, totals)
    return (prime, first_points(prime, prime + 1), totals)


def spread_double(prime, places, totals):
    """Any double of so many places whose columns and differences are of unlike points, None if there is none."""
    check_prime(prime)
    if not is_from(places, 2):
        raise InvalidNumber(places)
    check_totals(prime, totals)
    many = 2 * places - 1
    if many > prime + 1:
        return None
    return (prime, columns_by(prime, first_points(prime, many)), totals)


def check_totals(prime, totals):
    """Raise InvalidMember unless these are two totals modulo a prime."""
    if not is_pair(prime, totals):
        raise InvalidMember(totals)


def are_points(prime, value):
    """Whether a value is a list of an odd number, at least 3, of unlike points."""
    if not isinstance(value, list) or len(value) < 3 or len(value) % 2 == 0:
        return False
    if not all([is_column(prime, point) for point in value]):
        return False
    return all([point == point_by(prime, point) for point in value]) and len(set(value)) == len(value)


def first_points(prime, many):
    """The first so many points, in order."""
    return ([(0, 1)] + [(1, last) for last in range(prime)])[:many]


def columns_by(prime, points):
    """The columns of every second point, of which the points between them are those of their differences."""
    columns = [points[0]]
    for step, point in zip(points[1::2], points[2::2]):
        # Less so many times the point of the next column, the column is of one point with the difference.
        times = crossed(prime, columns[-1], step) * inverse_modulo(crossed(prime, point, step), prime)
        columns.append(taken(prime, point, times))
    return columns


def moves_of(double, kinds):
    """For each kind and place by what a slip there changes both sums if its signs differ by one."""
    prime, columns, _ = double
    moves = []
    if "single" in kinds:
        moves.extend([("single", place, column) for place, column in enumerate(columns)])
    if "swap" in kinds:
        moves.extend([("swap", place, step) for place, step in enumerate(steps_between(prime, columns))])
    return moves


def code_of_both(double, one, other):
    """Any number that slips of two moves explain, None if there is none."""
    prime = double[0]
    for times in range(1, prime):
        if one[2] == taken(prime, other[2], times):
            told = solved(prime, equations_of(double, one, other, times))
            # Behind the signs it is told by how much those of the first slip differ.
            if told is not None and told[-1] != 0:
                return told[:-1]
    return None


def equations_of(double, one, other, times):
    """What holds for the signs of a number that slips of two moves explain, and for a difference behind them.

    The signs of the first slip differ by this difference, those of the other one by so many times as much.
    """
    prime, columns, totals = double
    rows = []
    for side in (0, 1):
        rows.append([column[side] for column in columns] + [-one[2][side] % prime, totals[side]])
    for (kind, place, _), factor in ((one, 1), (other, times)):
        if kind == "swap":
            row = [0] * (len(columns) + 2)
            row[place], row[place + 1], row[-2] = 1, prime - 1, -factor % prime
            rows.append(row)
    return rows


def solved(prime, equations):
    """Any solution of linear equations modulo a prime, with 1 for whatever is left open, None if there is none.

    Each equation has the factors of all unknowns, and behind them what they come to. They are solved for the
    unknowns in order; so the last one is left open, and 1, unless it is the same in all solutions.
    """
    many, rows, leading = len(equations[0]) - 1, list(equations), []
    for unknown in range(many):
        at = len(leading)
        able = [number for number in range(at, len(rows)) if rows[number][unknown] != 0]
        if len(able) > 0:
            rows[at], rows[able[0]] = rows[able[0]], rows[at]
            inverse = inverse_modulo(rows[at][unknown], prime)
            leader = [entry * inverse % prime for entry in rows[at]]
            rows = [leader if number == at else cleared(prime, row, leader, unknown) for number, row in enumerate(rows)]
            leading.append(unknown)
    if any([row[-1] != 0 for row in rows[len(leading):]]):
        return None
    told = [1] * many
    for unknown, row in zip(leading, rows):
        # This unknown has the factor 1, all others that are solved for have 0, and the open ones are 1.
        told[unknown] = (row[-1] - sum(row[:-1]) + 1) % prime
    return told


def cleared(prime, row, leader, unknown):
    """An equation less so many times another one, with the factor 1 there, that an unknown falls out of it."""
    times = row[unknown]
    return [(entry - times * lead) % prime for entry, lead in zip(row, leader)]
