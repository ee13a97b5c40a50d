"""Weights by which no slip of some kinds passes, and weights that are powers."""

from math import gcd

from checkwright.errors import InvalidNumber, InvalidSlip
from checkwright.linear import are_weights, coefficient_at, step_by
from checkwright.plain import inverse_modulo, is_below, is_from
from checkwright.systems import how_many_starts

PAIR_KINDS = ("swap", "jump", "twin", "jumptwin")
BARRING = (2, 3, 5)
MOST_PLACES = 100


def are_perfect(modulus, kinds, value):
    """Whether any value is a list of at least two weights that are perfect for some kinds."""
    check_modulus(modulus)
    check_kinds(kinds)
    if not are_weights(modulus, value):
        return False
    factors = list(value)
    for kind in kinds:
        starts = how_many_starts(kind, len(value))
        factors.extend([coefficient_at(modulus, value, kind, place) for place in range(starts)])
    return all([gcd(factor, modulus) == 1 for factor in factors])


def can_be_perfect(modulus, places, kinds):
    """Whether there are perfect weights for so many places."""
    check_modulus(modulus)
    check_places(places)
    check_kinds(kinds)
    return all([small_weights(prime, places, kinds) is not None for prime in barring_ones(modulus)])


def perfect_weights(modulus, places, kinds):
    """Any perfect weights for so many places, None if there are none."""
    if not can_be_perfect(modulus, places, kinds):
        return None
    weights, base = [0] * places, 1
    for prime in barring_ones(modulus):
        weights = fitted(weights, base, small_weights(prime, places, kinds), prime)
        base = base * prime
    # All sums and differences of 1, 2, 3 have no other prime divisors than 2, 3 and 5.
    return fitted(weights, base, [1 + place % 3 for place in range(places)], without_barring_ones(modulus))


def least_by(modulus):
    """The least number of unordered pairs whose swap passes, of any two weights by which no single slip does."""
    check_modulus(modulus)
    return modulus // 2 if modulus % 2 == 0 else 0


def two_weights(modulus):
    """Any tuple of two such weights with this least number."""
    check_modulus(modulus)
    # Modulo the modulus they differ by 2, and no two odd weights can have less in common with an even one.
    return (1, modulus - 1)


def power_system(modulus, signs, ratio, places, total):
    """The linear system whose weights are the powers of a ratio, from the last place on."""
    check_modulus(modulus)
    if not is_from(signs, 2) or signs > modulus:
        raise InvalidNumber(signs)
    check_ratio(modulus, ratio)
    check_places(places)
    if not is_below(total, modulus):
        raise InvalidNumber(total)
    weights = [1]
    for _ in range(places - 1):
        weights.append(weights[-1] * ratio % modulus)
    return (modulus, signs, weights[::-1], total)


def steps_of_powers(modulus, ratio):
    """The tuple of the steps of the five kinds, of weights that are powers of a ratio."""
    check_modulus(modulus)
    check_ratio(modulus, ratio)
    square = ratio * ratio
    return tuple([step_by(modulus, factor) for factor in (1, ratio - 1, square - 1, ratio + 1, square + 1)])


def check_modulus(modulus):
    """Raise InvalidNumber unless this is a modulus."""
    if not is_from(modulus, 2):
        raise InvalidNumber(modulus)


def check_places(places):
    """Raise InvalidNumber unless there can be so many places."""
    if not is_from(places, 2) or places > MOST_PLACES:
        raise InvalidNumber(places)


def check_ratio(modulus, ratio):
    """Raise InvalidNumber unless this is a ratio: a number below the modulus that is prime to it."""
    if not is_below(ratio, modulus) or gcd(ratio, modulus) != 1:
        raise InvalidNumber(ratio)


def check_kinds(kinds):
    """Raise InvalidSlip unless these are a list of some of the kinds of two places, in their order."""
    if not isinstance(kinds, list) or kinds != [kind for kind in PAIR_KINDS if kind in kinds]:
        raise InvalidSlip(kinds)


def barring_ones(modulus):
    """The primes that divide a modulus and can bar perfect weights."""
    return [prime for prime in BARRING if modulus % prime == 0]


def without_barring_ones(modulus):
    """The greatest divisor of a modulus that no such prime divides."""
    for prime in BARRING:
        while modulus % prime == 0:
            modulus = modulus // prime
    return modulus


def small_weights(prime, places, kinds):
    """Weights that are perfect for a small prime, None if there are none."""
    # What can follow hangs on the last two weights alone, so one way to each two of them is enough.
    ways = {(0, weight): [weight] for weight in range(1, prime)}
    for _ in range(places - 1):
        longer = {}
        for (_, last), way in ways.items():
            for weight in range(1, prime):
                if can_follow(prime, kinds, way, weight):
                    longer[(last, weight)] = way + [weight]
        ways = longer
    found = list(ways.values())
    return found[0] if len(found) > 0 else None


def can_follow(prime, kinds, way, weight):
    """Whether no slip of the kinds whose last place has this weight passes behind those of a way."""
    weights = way + [weight]
    for kind in kinds:
        start = how_many_starts(kind, len(weights)) - 1
        if start >= 0 and coefficient_at(prime, weights, kind, start) == 0:
            return False
    return True


def fitted(weights, base, others, part):
    """The weights below base times part that are as the one list modulo base, and as the other one modulo part."""
    inverse = inverse_modulo(base % part, part)
    return [weight + base * ((other - weight) * inverse % part) for weight, other in zip(weights, others)]
