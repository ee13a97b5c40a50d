"""Safe numbers: right ones that no slip of some kinds turns into another right one."""

from checkwright.counting import check_pattern, how_many_in, how_many_up_to, net_of, numbered_in
from checkwright.plain import lowest_terms, plus, power, size_of
from checkwright.slips import befalling, does_pass, row_of_slips
from checkwright.systems import check_code, check_count, check_kinds_among, check_system, sum_borne

KINDS = ("swap", "twin")


def is_safe(system, kinds, code):
    """Whether a number is right, and no slip of some kinds that can befall it passes."""
    check_system(system)
    check_kinds_among(KINDS, kinds)
    check_code(system, code)
    slips = []
    for kind in kinds:
        slips.extend(befalling(system, code, kind))
    return sum_borne(system, code) == system[2] and not any([does_pass(system, slip) for slip in slips])


def how_many_safe(system, kinds, pattern):
    """How many safe numbers fit a pattern."""
    check_safe(system, kinds, pattern)
    return how_many_in(net_of_safe(system, kinds, pattern))


def safe_numbered(system, kinds, pattern, number):
    """The safe number that fits of which so many are ahead in order, None if there are not more."""
    check_safe(system, kinds, pattern)
    check_count(number)
    return numbered_in(net_of_safe(system, kinds, pattern), number)


def next_safe(system, kinds, pattern, code):
    """The first safe number that fits behind any number, None if there is none."""
    check_safe(system, kinds, pattern)
    check_code(system, code)
    net = net_of_safe(system, kinds, pattern)
    return numbered_in(net, how_many_up_to(net, code))


def cost_of_safety(system, kinds):
    """The share, in lowest terms, of safe numbers among all right ones."""
    check_system(system)
    check_kinds_among(KINDS, kinds)
    many, places = size_of(system[0]), len(system[1])
    net = net_of_safe(system, kinds, [list(range(many)) for _ in range(places)])
    return lowest_terms(how_many_in(net), power(many, places - 1))


def check_safe(system, kinds, pattern):
    """Raise the error of the first of these arguments that is wrong."""
    check_system(system)
    check_kinds_among(KINDS, kinds)
    check_pattern(system, pattern)


def net_of_safe(system, kinds, pattern):
    """The net of the safe numbers that fit, whose states are the sums of the signs ahead and the last of them."""
    orders, tables, total = system
    unsafe = [unsafe_pairs(system, kinds, place) for place in range(len(tables) - 1)]

    def step(place, state, sign):
        reached, last = state
        if place > 0 and unsafe[place - 1][last][sign]:
            return None
        return (plus(orders, reached, tables[place][sign]), sign)

    def is_end(state):
        return state[0] == total

    return net_of(pattern, (0, 0), step, is_end)


def unsafe_pairs(system, kinds, place):
    """For each sign at a place, for each one at the next place, whether a slip of the kinds passes there."""
    signs = list(range(size_of(system[0])))
    unsafe = [[False for _ in signs] for _ in signs]
    if "swap" in kinds:
        row = row_of_slips(system, "swap", place)
        unsafe = [[one != other and row[one] == row[other] for other in signs] for one in signs]
    if "twin" in kinds:
        row = row_of_slips(system, "twin", place)
        for sign in signs:
            unsafe[sign][sign] = row.count(row[sign]) > 1
    return unsafe
