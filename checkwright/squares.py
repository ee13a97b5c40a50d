"""Squares: in each row and in each column each number comes once."""

from math import gcd

from checkwright.errors import InvalidNumber, InvalidSquare, InvalidTable, Stuck
from checkwright.plain import is_each_once, is_from, paired

# What is taken, by exclusive or, from a number that has more bits than the signs, for each number of bits.
TAKEN = {2: 7, 3: 11, 4: 19}


def is_square(value):
    """Whether any value is a square."""
    if not isinstance(value, list) or len(value) < 2:
        return False
    many = len(value)
    if not all([is_each_once(row, many) for row in value]):
        return False
    return all([is_each_once([row[column] for row in value], many) for column in range(many)])


def weighted(size, weight):
    """The square with weight * s + x modulo the size in row s, column x."""
    check_size(size)
    if not is_from(weight, 1) or weight >= size or gcd(weight, size) != 1:
        raise InvalidNumber(weight)
    return [[(weight * state + sign) % size for sign in range(size)] for state in range(size)]


def field_square(bits):
    """The square of all numbers of so many bits: the sign, by exclusive or with the state moved up."""
    if not is_from(bits, 2) or bits not in TAKEN:
        raise InvalidNumber(bits)
    signs = list(range(1 << bits))
    moved = [(state << 1) ^ TAKEN[bits] if state << 1 >= len(signs) else state << 1 for state in signs]
    return [[sign ^ state for sign in signs] for state in moved]


def renamed(square, states, signs):
    """The square with other names of the states, in rows and entries, and of the signs."""
    check_square(square)
    for names in (states, signs):
        if not is_each_once(names, len(square)):
            raise InvalidTable(names)
    told = [[0] * len(square) for _ in square]
    for state, row in enumerate(square):
        for sign, entry in enumerate(row):
            told[states[state]][signs[sign]] = states[entry]
    return told


def joined_squares(square, other):
    """The square of the pairs, each part for itself."""
    check_square(square)
    check_square(other)
    return paired(square, other)


def how_many_swaps(square):
    """How many exchanges pass in all states."""
    check_square(square)
    return len(all_swaps(square))


def quiet_square(size):
    """Any quiet square of so many signs."""
    check_size(size)
    if size % 4 == 2:
        raise Stuck(size)
    odd, bits = size, 0
    while odd % 2 == 0:
        odd, bits = odd // 2, bits + 1
    parts = [weighted(odd, 2)] if odd > 1 else []
    # Any number of bits from 2 on is a sum of 2 and 3, and what is put together of quiet squares is quiet.
    while bits > 0:
        taken = 3 if bits % 2 == 1 else 2
        parts.append(field_square(taken))
        bits = bits - taken
    square = parts[0]
    for part in parts[1:]:
        square = paired(square, part)
    return square


def check_size(size):
    """Raise InvalidNumber unless a square can have this size."""
    if not is_from(size, 2):
        raise InvalidNumber(size)


def check_square(square):
    """Raise InvalidSquare unless this is a square."""
    if not is_square(square):
        raise InvalidSquare(square)


def all_swaps(square):
    """The tuples of a state and two signs, the lesser one first, whose exchange passes there, in order."""
    found = []
    for state, row in enumerate(square):
        for one in range(len(row)):
            ahead = square[row[one]]
            found.extend([(state, one, two) for two in range(one + 1, len(row)) if ahead[two] == square[row[two]][one]])
    return found
