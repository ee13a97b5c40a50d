"""Chains: signs that lead from state to state by a square."""

from checkwright.errors import InvalidCode, InvalidNumber, InvalidSystem
from checkwright.plain import are_below, equal_pairs, is_below, is_from, power
from checkwright.squares import all_swaps, check_square, is_square


def is_chain(value):
    """Whether any value is a chain."""
    if not isinstance(value, tuple) or len(value) != 3:
        return False
    square, start, end = value
    return is_square(square) and is_below(start, len(square)) and is_below(end, len(square))


def states_of(chain, code):
    """The list of all states to which a list of signs leads, the start first."""
    check_chain(chain)
    check_signs(chain, code)
    return states_along(chain, code)


def is_right_chain(chain, code):
    """Whether a list of signs is right."""
    check_chain(chain)
    check_signs(chain, code)
    return states_along(chain, code)[-1] == chain[2]


def sign_at(chain, code, place):
    """The sign that has to stand at a place for the list to be right."""
    check_chain(chain)
    check_signs(chain, code)
    if not is_below(place, len(code)):
        raise InvalidNumber(place)
    square, _, wanted = chain
    # Each sign comes to each state from just one, so the way back from the end is told, too.
    for sign in code[:place:-1]:
        wanted = [row[sign] for row in square].index(wanted)
    return square[states_along(chain, code)[place]].index(wanted)


def swaps_of(square):
    """The tuples of a state and two signs, the lesser one first, whose exchange passes there, in order."""
    check_square(square)
    return all_swaps(square)


def twins_of(square):
    """The tuples of a state and two signs, the lesser one first, whose twins pass there, in order."""
    check_square(square)
    found = []
    for state, row in enumerate(square):
        ends = [square[entry][sign] for sign, entry in enumerate(row)]
        found.extend([(state, one, two) for one, two in equal_pairs(ends)])
    return found


def is_quiet_square(square):
    """Whether no exchange passes in any state."""
    return swaps_of(square) == []


def how_many_slip(chain, length, place):
    """How many right lists of so many signs have an exchange that passes at a place and the next one."""
    check_chain(chain)
    check_length(length, 2)
    if not is_below(place, length - 1):
        raise InvalidNumber(place)
    square, start, end = chain
    signs_behind = length - place - 2
    many = 0
    for state, one, two in all_swaps(square):
        last = square[square[state][one]][two]
        many = many + 2 * how_many_ways(chain, start, state, place) * how_many_ways(chain, last, end, signs_behind)
    return many


def how_many_right_lists(chain, length):
    """How many right lists of so many signs there are."""
    check_chain(chain)
    check_length(length, 1)
    return power(len(chain[0]), length - 1)


def check_chain(chain):
    """Raise InvalidSystem unless this is a chain."""
    if not is_chain(chain):
        raise InvalidSystem(chain)


def check_signs(chain, code):
    """Raise InvalidCode unless this is a list of signs, not empty."""
    if not are_below(code, len(chain[0])) or len(code) == 0:
        raise InvalidCode(code)


def check_length(length, least):
    """Raise InvalidNumber unless this is a whole number of at least so much."""
    if not is_from(length, least):
        raise InvalidNumber(length)


def states_along(chain, code):
    """The states to which what is known to be a list of signs leads, the start first."""
    square, start, _ = chain
    states = [start]
    for sign in code:
        states.append(square[states[-1]][sign])
    return states


def how_many_ways(chain, state, other, length):
    """How many lists of so many signs, perhaps none, lead from one state to another one."""
    if length == 0:
        return 1 if state == other else 0
    # Whatever comes ahead, the last sign can lead to each state.
    return power(len(chain[0]), length - 1)
