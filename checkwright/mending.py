"""Mending: what was meant by a number that can't be read, or is wrong."""

from checkwright.checking import wanted_at
from checkwright.errors import InvalidCode, InvalidSlip
from checkwright.plain import are_below_or_none, listed_once, power, size_of
from checkwright.slips import befalling
from checkwright.systems import (
    befalls, check_code, check_count, check_kind, check_many, check_system, gone_back, is_code_of, is_kind, is_slip_of,
    sum_borne, written,
)


def how_many_fillings(system, gaps):
    """How many right numbers have the signs that are told."""
    check_system(system)
    check_gaps(system, gaps)
    return how_many_by(system, gaps)


def fillings(system, gaps):
    """The right numbers with the signs that are told, in order."""
    check_system(system)
    check_gaps(system, gaps)
    many = how_many_by(system, gaps)
    check_many(many)
    return [filled(system, gaps, number) for number in range(many)]


def filling_numbered(system, gaps, number):
    """The filling ahead of which, in order, there are so many, None if there are not more."""
    check_system(system)
    check_gaps(system, gaps)
    check_count(number)
    return filled(system, gaps, number) if number < how_many_by(system, gaps) else None


def mends(system, code, kind):
    """The mends of a number by a kind, in order."""
    check_system(system)
    check_code(system, code)
    check_kind(kind)
    return mends_by(system, code, kind)


def is_mend(system, code, value):
    """Whether any value is a mend of a number, by whatever kind."""
    check_system(system)
    check_code(system, code)
    if not isinstance(value, tuple) or len(value) != 2:
        return False
    slip, right = value
    if not is_slip_of(system, slip) or not is_code_of(system, right) or sum_borne(system, right) != system[2]:
        return False
    return befalls(right, slip) and written(right, slip) == code


def could_be_meant(system, code, kinds):
    """The unlike right numbers of all mends by some kinds, in order."""
    check_system(system)
    check_code(system, code)
    check_kinds(kinds)
    meant = []
    for kind in kinds:
        meant.extend([right for _, right in mends_by(system, code, kind)])
    return listed_once(meant)


def sure_signs(system, code, kinds):
    """For each place the sign that all that could be meant have there, or None; None alone if there are none."""
    meant = could_be_meant(system, code, kinds)
    if len(meant) == 0:
        return None
    first = meant[0]
    return [sign if all([right[place] == sign for right in meant]) else None for place, sign in enumerate(first)]


def check_gaps(system, gaps):
    """Raise InvalidCode unless this is a list of signs and None, one for each place."""
    if not are_below_or_none(gaps, size_of(system[0])) or len(gaps) != len(system[1]):
        raise InvalidCode(gaps)


def check_kinds(kinds):
    """Raise InvalidSlip unless these are a list, not empty, of unlike kinds."""
    if not isinstance(kinds, list) or len(kinds) == 0 or not all([is_kind(kind) for kind in kinds]):
        raise InvalidSlip(kinds)
    if len(set(kinds)) != len(kinds):
        raise InvalidSlip(kinds)


def how_many_by(system, gaps):
    """How many fillings there are of what are known to be gaps."""
    open_places = gaps.count(None)
    if open_places == 0:
        return 1 if sum_borne(system, gaps) == system[2] else 0
    return power(size_of(system[0]), open_places - 1)


def filled(system, gaps, number):
    """The filling ahead of which there are so many, where there are known to be more."""
    code, many = list(gaps), size_of(system[0])
    open_places = [place for place, sign in enumerate(gaps) if sign is None]
    if len(open_places) == 0:
        return code
    # All gaps but the last one count through their signs; at the last one just one sign is wanted.
    for place in reversed(open_places[:-1]):
        code[place] = number % many
        number = number // many
    last = open_places[-1]
    code[last] = 0
    code[last] = wanted_at(system, code, last)
    return code


def mends_by(system, code, kind):
    """The mends by what is known to be a kind, in order: what the slips of the number itself lead to, taken back."""
    found = []
    for slip in befalling(system, code, kind):
        right = written(code, slip)
        if sum_borne(system, right) == system[2]:
            found.append((gone_back(slip), right))
    return found
