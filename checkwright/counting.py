"""Right numbers that fit a pattern: counted, numbered, and found one behind the other.

All is told by nets, so that no numbers need be gone through. A net is a tuple of a first state and of one dict for
each place: each state in which a number can come to this place has a list of ways, tuples of a sign, of the state
behind it, and of how many right ends can follow then.
"""

from checkwright.errors import InvalidCode
from checkwright.plain import are_below, plus, size_of
from checkwright.systems import check_code, check_count, check_many, check_system


def is_pattern(system, value):
    """Whether any value is a pattern of a system."""
    check_system(system)
    return is_pattern_of(system, value)


def fits(system, pattern, code):
    """Whether a number fits a pattern."""
    check_fitting(system, pattern, code)
    return all([sign in signs for sign, signs in zip(code, pattern)])


def sums_of(system, pattern):
    """For each member how many numbers that fit have it as their sum."""
    check_system(system)
    check_pattern(system, pattern)
    orders, tables, _ = system
    counts = [1] + [0] * (size_of(orders) - 1)
    for table, signs in zip(tables, pattern):
        behind = [0] * len(counts)
        for member, many in enumerate(counts):
            for sign in signs:
                reached = plus(orders, member, table[sign])
                behind[reached] = behind[reached] + many
        counts = behind
    return counts


def how_many_right(system, pattern):
    """How many right numbers fit."""
    return sums_of(system, pattern)[system[2]]


def right_numbered(system, pattern, number):
    """The right number that fits of which so many are ahead in order, None if there are not more."""
    check_system(system)
    check_pattern(system, pattern)
    check_count(number)
    return numbered_in(net_of_sums(system, pattern), number)


def number_of(system, pattern, code):
    """How many right numbers that fit are ahead of any number."""
    check_fitting(system, pattern, code)
    return how_many_ahead(net_of_sums(system, pattern), code)


def next_right(system, pattern, code):
    """The first right number that fits behind any number, None if there is none."""
    check_fitting(system, pattern, code)
    net = net_of_sums(system, pattern)
    return numbered_in(net, how_many_up_to(net, code))


def last_right(system, pattern, code):
    """The last right number that fits ahead of any number, None if there is none."""
    check_fitting(system, pattern, code)
    net = net_of_sums(system, pattern)
    ahead = how_many_ahead(net, code)
    return numbered_in(net, ahead - 1) if ahead > 0 else None


def issued(system, pattern, code, many):
    """The first so many right numbers that fit behind any number, or as many as there are."""
    check_fitting(system, pattern, code)
    check_count(many)
    check_many(many)
    net = net_of_sums(system, pattern)
    first = how_many_up_to(net, code)
    return [numbered_in(net, number) for number in range(first, min(first + many, how_many_in(net)))]


def check_pattern(system, pattern):
    """Raise InvalidCode unless this is a pattern of the system."""
    if not is_pattern_of(system, pattern):
        raise InvalidCode(pattern)


def check_fitting(system, pattern, code):
    """Raise the error of the first of these arguments that is wrong."""
    check_system(system)
    check_pattern(system, pattern)
    check_code(system, code)


def is_pattern_of(system, value):
    """Whether a value is a pattern of what is known to be a system."""
    if not isinstance(value, list) or len(value) != len(system[1]):
        return False
    many = size_of(system[0])
    return all([are_below(signs, many) and signs == sorted(set(signs)) for signs in value])


def net_of_sums(system, pattern):
    """The net of the right numbers that fit, whose states are the sums of the signs ahead."""
    orders, tables, total = system

    def step(place, state, sign):
        return plus(orders, state, tables[place][sign])

    def is_end(state):
        return state == total

    return net_of(pattern, 0, step, is_end)


def net_of(pattern, start, step, is_end):
    """The net of the numbers that fit a pattern and end right.

    From a start on, `step` leads from a place, a state and a sign to the next state, or to None where the sign must
    not stand there; `is_end` tells whether a last state is a right end.
    """
    layers, states = [], [start]
    for place, signs in enumerate(pattern):
        layer = {state: steps_from(step, place, state, signs) for state in states}
        layers.append(layer)
        states = sorted({behind for steps in layer.values() for _, behind in steps})
    many = {state: 1 if is_end(state) else 0 for state in states}
    counted = []
    for layer in reversed(layers):
        ways = {state: counted_ways(steps, many) for state, steps in layer.items()}
        many = {state: how_many_by(leading) for state, leading in ways.items()}
        counted.append(ways)
    return (start, counted[::-1])


def how_many_in(net):
    """How many numbers go through a net."""
    start, layers = net
    return how_many_by(layers[0][start])


def numbered_in(net, number):
    """The number of a net of which so many are ahead in order, None if there are not more."""
    if number >= how_many_in(net):
        return None
    state, layers = net
    code = []
    for layer in layers:
        ways, at = layer[state], 0
        while number >= ways[at][2]:
            number, at = number - ways[at][2], at + 1
        code.append(ways[at][0])
        state = ways[at][1]
    return code


def how_many_ahead(net, code):
    """How many numbers of a net are ahead of any number."""
    return place_in(net, code)[0]


def how_many_up_to(net, code):
    """How many numbers of a net are ahead of any number or this number itself."""
    ahead, is_in = place_in(net, code)
    return ahead + 1 if is_in else ahead


def place_in(net, code):
    """How many numbers of a net are ahead of any number, and whether this one is in the net."""
    state, layers = net
    ahead = 0
    for layer, sign in zip(layers, code):
        ahead = ahead + how_many_by([way for way in layer[state] if way[0] < sign])
        own = [way for way in layer[state] if way[0] == sign]
        if len(own) == 0:
            return (ahead, False)
        state = own[0][1]
    return (ahead, True)


def steps_from(step, place, state, signs):
    """The tuples of a sign that can stand at a place in a state, and of the state behind it."""
    steps = [(sign, step(place, state, sign)) for sign in signs]
    return [(sign, behind) for sign, behind in steps if behind is not None]


def counted_ways(steps, many):
    """The ways of steps of which it is known how many right ends follow; those that lead to none are left out."""
    return [(sign, behind, many[behind]) for sign, behind in steps if many[behind] > 0]


def how_many_by(ways):
    """How many numbers go some ways."""
    return sum([way[2] for way in ways])
