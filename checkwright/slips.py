"""Which slips of a system pass, and which can befall a number."""

from checkwright.plain import equal_pairs, how_many_equal, minuses, pluses, size_of
from checkwright.systems import (
    REACHES, check_code, check_kind, check_slip, check_start, check_system, how_many_starts,
)


def passes(system, slip):
    """Whether a slip passes."""
    check_system(system)
    check_slip(system, slip)
    return does_pass(system, slip)


def passing(system, kind, place):
    """The slips of a kind at a place that pass, in order."""
    check_system(system)
    check_kind(kind)
    check_start(kind, len(system[1]), place)
    return passing_at(system, kind, place)


def counts(system, kind):
    """How many slips of a kind pass at each place, from 0 on."""
    check_system(system)
    check_kind(kind)
    return counts_by(system, kind)


def possible(system, kind):
    """How many slips of a kind there are."""
    check_system(system)
    check_kind(kind)
    return possible_by(system, kind)


def caught(system):
    """The kinds none of which passes."""
    check_system(system)
    return [kind for kind in REACHES if sum(counts_by(system, kind)) == 0]


def worst_place(system, kind):
    """The first place at which the most slips of a kind pass, None if none passes anywhere."""
    found = counts(system, kind)
    most = max(found, default=0)
    return found.index(most) if most > 0 else None


def first_passing(system, kind):
    """The first slip of a kind that passes, None if none does."""
    for place, many in enumerate(counts(system, kind)):
        if many > 0:
            return passing_at(system, kind, place)[0]
    return None


def own_slips(system, code, kind):
    """The slips of a kind that can befall a number, in order."""
    check_system(system)
    check_code(system, code)
    check_kind(kind)
    return befalling(system, code, kind)


def unseen(system, code):
    """All slips that can befall a number and pass, in order."""
    check_system(system)
    check_code(system, code)
    found = []
    for kind in sorted(REACHES):
        found.extend([slip for slip in befalling(system, code, kind) if does_pass(system, slip)])
    return found


def row_of_slips(system, kind, place):
    """The row on which it hangs which slips of a kind pass at a place."""
    orders, tables, _ = system
    return row_of_tables(orders, kind, tables[place], tables[place + REACHES[kind]])


def row_of_tables(orders, kind, first, last):
    """A row of which two entries are equal exactly if the slips of the kind with their signs pass.

    By the entry of the other sign, less that of the sign, each slip shifts the sum.
    """
    if kind == "single":
        return first
    return minuses(orders, first, last) if kind in ("swap", "jump") else pluses(orders, first, last)


def does_pass(system, slip):
    """Whether what is known to be a slip passes."""
    kind, place, sign, other = slip
    row = row_of_slips(system, kind, place)
    return row[sign] == row[other]


def passing_at(system, kind, place):
    """The slips of a kind that pass at a place where they can begin, in order."""
    pairs = equal_pairs(row_of_slips(system, kind, place))
    return sorted([(kind, place, one, two) for one, two in pairs] + [(kind, place, two, one) for one, two in pairs])


def counts_by(system, kind):
    """How many slips of what is known to be a kind pass at each place."""
    starts = how_many_starts(kind, len(system[1]))
    return [2 * how_many_equal(row_of_slips(system, kind, place)) for place in range(starts)]


def possible_by(system, kind):
    """How many slips of what is known to be a kind there are."""
    many = size_of(system[0])
    return many * (many - 1) * how_many_starts(kind, len(system[1]))


def befalling(system, code, kind):
    """The slips of what is known to be a kind that can befall a number, in order."""
    found = []
    for place in range(how_many_starts(kind, len(code))):
        sign, last = code[place], code[place + REACHES[kind]]
        if kind in ("swap", "jump"):
            others = [last]
        else:
            others = list(range(size_of(system[0]))) if sign == last else []
        found.extend([(kind, place, sign, other) for other in others if other != sign])
    return found
