"""Linear systems: weighted signs that are added up modulo a number."""

from math import gcd

from checkwright.errors import InvalidCode, InvalidLinear, InvalidNumber, Stuck
from checkwright.plain import are_below, inverse_modulo, is_below, is_from, power
from checkwright.systems import REACHES, check_kind, check_many, check_start


def is_linear(value):
    """Whether any value is a linear system."""
    if not isinstance(value, tuple) or len(value) != 4:
        return False
    modulus, signs, weights, total = value
    if not is_from(modulus, 2) or not is_from(signs, 2) or signs > modulus:
        return False
    return are_weights(modulus, weights) and is_below(total, modulus)


def weighted_sum(linear, code):
    """The sum modulo the modulus of all signs of a number, each times its weight."""
    check_linear(linear)
    check_code_of(linear, code)
    return sum_weighed(linear, code)


def is_right_weighted(linear, code):
    """Whether a number is right."""
    return weighted_sum(linear, code) == linear[3]


def as_system(linear):
    """The system with the same right numbers."""
    check_linear(linear)
    modulus, signs, weights, total = linear
    if signs != modulus or not all([gcd(weight, modulus) == 1 for weight in weights]):
        raise Stuck(linear)
    return ((modulus,), [[weight * sign % modulus for sign in range(signs)] for weight in weights], total)


def coefficient(linear, kind, place):
    """What the difference of the signs of a slip is taken times."""
    check_slips(linear, kind, place)
    return coefficient_at(linear[0], linear[2], kind, place)


def step_of(linear, kind, place):
    """The number of which a multiple lies between the signs of each slip that passes."""
    check_slips(linear, kind, place)
    return step_at(linear, kind, place)


def how_many_by(linear, kind, place):
    """How many unordered pairs of unlike signs pass."""
    check_slips(linear, kind, place)
    return how_many_apart(linear[1], step_at(linear, kind, place))


def pairs_by(linear, kind, place):
    """The pairs of unlike signs that pass, in order, the lesser sign first."""
    check_slips(linear, kind, place)
    signs, step = linear[1], step_at(linear, kind, place)
    check_many(how_many_apart(signs, step))
    # Signs may have 30 figures, so only those are gone through that have a pair.
    return [(sign, other) for sign in range(signs - step) for other in range(sign + step, signs, step)]


def signs_at(linear, code, place):
    """The signs that can stand at a place for the number to be right, ascending."""
    check_linear(linear)
    check_code_of(linear, code)
    if not is_below(place, len(code)):
        raise InvalidNumber(place)
    modulus, signs, weights, total = linear
    weight = weights[place]
    common = gcd(weight, modulus)
    wanted = (total - sum_weighed(linear, code) + weight * code[place]) % modulus
    if wanted % common != 0:
        return []
    step = modulus // common
    first = wanted // common * inverse_modulo(weight // common, step) % step
    check_many((signs - 1 - first) // step + 1)
    return list(range(first, signs, step))


def how_many_weighted(linear):
    """How many numbers are right."""
    check_linear(linear)
    modulus, signs, weights, total = linear
    if signs == modulus and 1 in [gcd(weight, modulus) for weight in weights]:
        return power(signs, len(weights) - 1)
    counts = {0: 1}
    for weight in weights:
        counts = counts_behind(counts, modulus, signs, weight)
    return counts.get(total, 0)


def check_linear(linear):
    """Raise InvalidLinear unless this is a linear system."""
    if not is_linear(linear):
        raise InvalidLinear(linear)


def check_code_of(linear, code):
    """Raise InvalidCode unless this is a number of the linear system."""
    if not are_below(code, linear[1]) or len(code) != len(linear[2]):
        raise InvalidCode(code)


def check_slips(linear, kind, place):
    """Raise the error of the first of these arguments that is wrong."""
    check_linear(linear)
    check_kind(kind)
    check_start(kind, len(linear[2]), place)


def are_weights(modulus, value):
    """Whether any value is a list of at least two weights."""
    return are_below(value, modulus) and len(value) >= 2 and 0 not in value


def sum_weighed(linear, code):
    """The weighted sum of what is known to be a number."""
    return sum([weight * sign for weight, sign in zip(linear[2], code)]) % linear[0]


def coefficient_at(modulus, weights, kind, place):
    """The coefficient of a kind at a place where such slips can begin."""
    weight, last = weights[place], weights[place + REACHES[kind]]
    if kind == "single":
        return weight
    return (weight - last if kind in ("swap", "jump") else weight + last) % modulus


def step_by(modulus, factor):
    """The step of a coefficient."""
    return modulus // gcd(modulus, factor)


def step_at(linear, kind, place):
    """The step of a kind at a place where such slips can begin."""
    return step_by(linear[0], coefficient_at(linear[0], linear[2], kind, place))


def how_many_apart(signs, step):
    """How many unordered pairs of so many signs lie a multiple of a step apart."""
    times = (signs - 1) // step
    return times * signs - step * times * (times + 1) // 2


def counts_behind(counts, modulus, signs, weight):
    """Of how many numbers each sum comes, of those ahead of one place more."""
    longer = {}
    for total, many in counts.items():
        for sign in range(signs):
            reached = (total + weight * sign) % modulus
            longer[reached] = longer.get(reached, 0) + many
    return longer
