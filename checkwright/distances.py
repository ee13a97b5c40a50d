"""Distances of numbers, and by which members slips shift their sums."""

from math import comb

from checkwright.checking import set_at
from checkwright.groups import check_member
from checkwright.plain import minus, power, size_of
from checkwright.slips import row_of_slips
from checkwright.systems import (
    check_code, check_count, check_kind, check_many, check_slip, check_system, how_many_starts, sum_borne,
)


def distance(system, code, other):
    """How many places of two numbers bear unlike signs."""
    check_system(system)
    check_code(system, code)
    check_code(system, other)
    return len([sign for sign, theirs in zip(code, other) if sign != theirs])


def how_many_at(system, code, many):
    """How many right numbers have a distance from a number."""
    check_system(system)
    check_code(system, code)
    check_count(many)
    places, signs = len(code), size_of(system[0])
    if many > places:
        return 0
    others, turn = power(signs - 1, many), power(-1, many)
    if sum_borne(system, code) == system[2]:
        return comb(places, many) * (others + (signs - 1) * turn) // signs
    return comb(places, many) * (others - turn) // signs


def nearest_right(system, code):
    """The right numbers of the least distance, in order."""
    check_system(system)
    check_code(system, code)
    if sum_borne(system, code) == system[2]:
        return [list(code)]
    return sorted([set_at(system, code, place) for place in range(len(code))])


def shift_of(system, slip):
    """The member by which a slip makes a right number off."""
    check_system(system)
    check_slip(system, slip)
    kind, place, sign, other = slip
    row = row_of_slips(system, kind, place)
    return minus(system[0], row[other], row[sign])


def shifts(system, kind):
    """For each member how many slips of a kind shift by it."""
    check_system(system)
    check_kind(kind)
    many = [0] * size_of(system[0])
    for shift, _ in shifting(system, kind):
        many[shift] = many[shift] + 1
    return many


def slips_by(system, kind, member):
    """The slips of a kind that shift by a member, in order."""
    check_system(system)
    check_kind(kind)
    check_member(system[0], member)
    found = [slip for shift, slip in shifting(system, kind) if shift == member]
    check_many(len(found))
    return found


def shifting(system, kind):
    """All slips of what is known to be a kind, in order, each behind the member by which it shifts."""
    orders, tables, _ = system
    found = []
    for place in range(how_many_starts(kind, len(tables))):
        row = row_of_slips(system, kind, place)
        for sign, less in enumerate(row):
            slips = [(kind, place, sign, other) for other in range(len(row)) if other != sign]
            found.extend([(minus(orders, row[slip[3]], less), slip) for slip in slips])
    return found
