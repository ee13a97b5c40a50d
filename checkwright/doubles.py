"""Doubles: numbers with two sums modulo a prime, which often tell what befell them."""

from checkwright.errors import InvalidCode, InvalidLinear, InvalidNumber, InvalidRow
from checkwright.plain import are_below, are_below_or_none, inverse_modulo, is_below, is_prime_below, listed_once, power
from checkwright.systems import check_count, check_kinds_among, gone_back, written

PRIME_BOUND = 1000
KINDS = ("single", "swap")


def is_double(value):
    """Whether any value is a double."""
    if not isinstance(value, tuple) or len(value) != 3:
        return False
    prime, columns, totals = value
    if not is_prime_below(prime, PRIME_BOUND) or not isinstance(columns, list) or len(columns) < 2:
        return False
    if not all([is_column(prime, column) for column in columns]) or not is_pair(prime, totals):
        return False
    return not are_of_one_point(prime, columns)


def off_sums(double, code):
    """How much greater than its total each sum of a number is, modulo the prime."""
    check_double(double)
    check_code_of_double(double, code)
    return off_by_sums(double, code)


def is_right_double(double, code):
    """Whether a number is right."""
    return off_sums(double, code) == (0, 0)


def point_of(prime, column):
    """The first column, in order, that is of one point with a column."""
    check_prime(prime)
    if not is_column(prime, column):
        raise InvalidRow(column)
    return point_by(prime, column)


def explained(double, kinds, code):
    """The slips of some kinds that explain a number, in order."""
    check_double(double)
    check_kinds_among(KINDS, kinds)
    check_code_of_double(double, code)
    return explaining(double, kinds, code)


def could_have_been(double, kinds, code):
    """The right numbers of which a number comes by a slip of some kinds, in order."""
    slips = explained(double, kinds, code)
    return listed_once([written(code, gone_back(slip)) for slip in slips])


def how_many_filled(double, gaps):
    """How many right numbers have the signs that are told."""
    check_double(double)
    check_gaps_of_double(double, gaps)
    return how_many_behind(double[0], columns_open(double, gaps), sums_open(double, gaps))


def filled_numbered(double, gaps, number):
    """The right number with the told signs of which so many are ahead, None if there are not more."""
    check_double(double)
    check_gaps_of_double(double, gaps)
    check_count(number)
    prime = double[0]
    columns, wanted = columns_open(double, gaps), sums_open(double, gaps)
    if number >= how_many_behind(prime, columns, wanted):
        return None
    code = list(gaps)
    for at, place in enumerate([place for place, sign in enumerate(gaps) if sign is None]):
        behind, sign = columns[at + 1:], 0
        many = how_many_behind(prime, behind, wanted)
        while number >= many:
            number, sign, wanted = number - many, sign + 1, less(prime, wanted, columns[at])
            many = how_many_behind(prime, behind, wanted)
        code[place] = sign
    return code


def check_double(double):
    """Raise InvalidLinear unless this is a double."""
    if not is_double(double):
        raise InvalidLinear(double)


def check_prime(prime):
    """Raise InvalidNumber unless this is a prime that a double can have."""
    if not is_prime_below(prime, PRIME_BOUND):
        raise InvalidNumber(prime)


def check_code_of_double(double, code):
    """Raise InvalidCode unless this is a number of the double."""
    if not is_code_of_double(double, code):
        raise InvalidCode(code)


def check_gaps_of_double(double, gaps):
    """Raise InvalidCode unless this is a number of the double with None in the place of some signs."""
    if not are_below_or_none(gaps, double[0]) or len(gaps) != len(double[1]):
        raise InvalidCode(gaps)


def is_code_of_double(double, value):
    """Whether a value is a number of what is known to be a double."""
    return are_below(value, double[0]) and len(value) == len(double[1])


def is_pair(prime, value):
    """Whether a value is a tuple of two whole numbers below a prime."""
    return isinstance(value, tuple) and len(value) == 2 and all([is_below(one, prime) for one in value])


def is_column(prime, value):
    """Whether a value is a column: a pair whose numbers are not both 0."""
    return is_pair(prime, value) and value != (0, 0)


def less(prime, pair, other):
    """What is to be added to a pair of numbers to come to the first one, modulo a prime."""
    return ((pair[0] - other[0]) % prime, (pair[1] - other[1]) % prime)


def taken(prime, pair, times):
    """A pair of numbers, each taken so many times, modulo a prime."""
    return (pair[0] * times % prime, pair[1] * times % prime)


def crossed(prime, pair, other):
    """A number that is 0 exactly if two pairs are of one point, or one of them is (0, 0)."""
    return (pair[0] * other[1] - pair[1] * other[0]) % prime


def are_of_one_point(prime, columns):
    """Whether all columns are of one point with the first one."""
    return all([crossed(prime, columns[0], column) == 0 for column in columns])


def point_by(prime, column):
    """The first column that is of one point with what is known to be a column."""
    if column[0] == 0:
        return (0, 1)
    return taken(prime, column, inverse_modulo(column[0], prime))


def off_by_sums(double, code):
    """How much greater than its total each sum of what is known to be a number is."""
    prime, columns, totals = double
    off = less(prime, (0, 0), totals)
    for column, sign in zip(columns, code):
        off = ((off[0] + column[0] * sign) % prime, (off[1] + column[1] * sign) % prime)
    return off


def steps_between(prime, columns):
    """The differences of neighbouring columns, each less the one behind it."""
    return [less(prime, column, behind) for column, behind in zip(columns, columns[1:])]


def explaining(double, kinds, code):
    """The slips of what are known to be kinds that explain a number, in order."""
    prime, columns, _ = double
    off, found = off_by_sums(double, code), []
    if "single" in kinds and off != (0, 0):
        for place, column in enumerate(columns):
            # Only what is of one point with the column can come of a slip there, by one sign.
            if crossed(prime, column, off) == 0:
                side = 0 if column[0] != 0 else 1
                more = off[side] * inverse_modulo(column[side], prime)
                found.append(("single", place, (code[place] - more) % prime, code[place]))
    if "swap" in kinds:
        for place, step in enumerate(steps_between(prime, columns)):
            other, sign = code[place], code[place + 1]
            if sign != other and taken(prime, step, other - sign) == off:
                found.append(("swap", place, sign, other))
    return found


def columns_open(double, gaps):
    """The columns of all gaps."""
    return [column for column, sign in zip(double[1], gaps) if sign is None]


def sums_open(double, gaps):
    """What the signs at all gaps have to sum to."""
    told = [0 if sign is None else sign for sign in gaps]
    return less(double[0], (0, 0), off_by_sums(double, told))


def how_many_behind(prime, columns, wanted):
    """How many lists of signs, one for each of some columns, perhaps none, have the wanted sums."""
    if len(columns) == 0:
        return 1 if wanted == (0, 0) else 0
    if not are_of_one_point(prime, columns):
        return power(prime, len(columns) - 2)
    return power(prime, len(columns) - 1) if crossed(prime, columns[0], wanted) == 0 else 0
