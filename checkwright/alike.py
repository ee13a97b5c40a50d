"""Systems that do the same, and the least one of them."""

from math import factorial

from checkwright.errors import Stuck
from checkwright.groups import check_orders
from checkwright.plain import minus, plus, power, size_of, sum_up, turned_round
from checkwright.systems import check_system


def are_alike(system, other):
    """Whether two systems have the same size, number of places and right numbers."""
    check_system(system)
    check_system(other)
    if not are_of_one_shape(system, other):
        return False
    if len(system[1]) == 2:
        return signs_beside(system) == signs_beside(other)
    way = way_told(system, other)
    return keeps_sums(system[0], other[0], way) and leads_to(way, system, other)


def parting(system, other):
    """Any number that is right in just one of two systems, None if they are alike."""
    check_system(system)
    check_system(other)
    if not are_of_one_shape(system, other):
        raise Stuck(other)
    if len(system[1]) == 2:
        return parting_pair(system, other)
    for place in range(2, len(system[1])):
        signs = parting_three(cut_to_three(system, place), cut_to_three(other, place))
        if signs is not None:
            code = [0] * len(system[1])
            code[0], code[1], code[place] = signs
            return code
    return None


def ways_same(orders):
    """The tables of members by members that turn sums into sums, in order."""
    check_orders(orders)
    ways = [[0]]
    # The lowest figure comes first: it tells the first entries, so the tables come about in order.
    for order in reversed(orders):
        wider = []
        for way in ways:
            wider.extend(widened(orders, way, order))
        ways = wider
    return ways


def least_alike(system):
    """The least of the systems of the same orders that are alike this one."""
    check_system(system)
    orders, tables, _ = system
    if len(tables) == 2:
        return least_pair(system)
    levelled, total = with_noughts(system)
    # A table is told by where it leads the entries of the first place, so there the least is decided.
    first = min([[way[entry] for entry in levelled[0]] for way in ways_same(orders)])
    least_way = [first[sign] for sign in turned_round(levelled[0])]
    return (orders, [[least_way[entry] for entry in table] for table in levelled], least_way[total])


def how_many_alike(system):
    """How many systems of the same orders are alike this one."""
    check_system(system)
    many, places = size_of(system[0]), len(system[1])
    if places == 2:
        return many * factorial(many)
    return len(ways_same(system[0])) * power(many, places)


def are_of_one_shape(system, other):
    """Whether two systems have the same size and the same number of places."""
    return size_of(system[0]) == size_of(other[0]) and len(system[1]) == len(other[1])


def signs_beside(system):
    """Of a system of two places the sign that is wanted at the second one beside each sign at the first one."""
    orders, tables, total = system
    signs = turned_round(tables[1])
    return [signs[minus(orders, total, entry)] for entry in tables[0]]


def way_told(system, other):
    """The table of members by members that the first places of two systems tell."""
    mine, theirs = system[1][0], other[1][0]
    way = [0] * len(mine)
    for entry, made in zip(mine, theirs):
        way[minus(system[0], entry, mine[0])] = minus(other[0], made, theirs[0])
    return way


def keeps_sums(orders, others, way):
    """Whether a table of members by members, nought by nought, turns sums into sums."""
    worth = 1
    # All members are sums of those with one figure, a 1, so these are enough.
    for order in reversed(orders):
        for member, made in enumerate(way):
            if way[plus(orders, member, worth)] != plus(others, made, way[worth]):
                return False
        worth = worth * order
    return True


def leads_to(way, system, other):
    """Whether a way leads the tables and the total of a system, but for members added, to those of the other one."""
    orders = other[0]
    shifts = [minus(orders, theirs[0], way[mine[0]]) for mine, theirs in zip(system[1], other[1])]
    for mine, theirs, shift in zip(system[1], other[1], shifts):
        if theirs != [plus(orders, way[entry], shift) for entry in mine]:
            return False
    return other[2] == plus(orders, way[system[2]], sum_up(orders, shifts))


def cut_to_three(system, place):
    """The system of the first two places and another one, where sign 0 stands at all others."""
    orders, tables, total = system
    others = tables[2:place] + tables[place + 1:]
    rest = sum_up(orders, [table[0] for table in others])
    return (orders, [tables[0], tables[1], tables[place]], minus(orders, total, rest))


def parting_three(system, other):
    """Three signs that are right in just one of two systems of three places, None if there are none."""
    for sign, (entry, made) in enumerate(zip(system[1][0], other[1][0])):
        mine = (system[0], system[1][1:], minus(system[0], system[2], entry))
        theirs = (other[0], other[1][1:], minus(other[0], other[2], made))
        pair = parting_pair(mine, theirs)
        if pair is not None:
            return [sign] + pair
    return None


def parting_pair(system, other):
    """Two signs that are right in just one of two systems of two places, None if there are none."""
    for sign, (mine, theirs) in enumerate(zip(signs_beside(system), signs_beside(other))):
        if mine != theirs:
            return [sign, mine]
    return None


def widened(orders, way, order):
    """The ways, in order, that lead the next figure somewhere, too, of one that leads all lower figures."""
    found = []
    for image in range(size_of(orders)):
        wider, start = [], 0
        for _ in range(order):
            wider.extend([plus(orders, start, entry) for entry in way])
            start = plus(orders, start, image)
        if start == 0 and len(set(wider)) == len(wider):
            found.append(wider)
    return found


def least_pair(system):
    """The least of the systems alike one of two places: as its first table is in order, only its total is open."""
    orders, tables, _ = system
    mates = turned_round(signs_beside(system))
    total = mates[0]
    return (orders, [list(range(len(tables[0]))), [minus(orders, total, mate) for mate in mates]], total)


def with_noughts(system):
    """The tables and the total of the system alike this one whose signs 0 all bear nought."""
    orders, tables, total = system
    levelled = [[minus(orders, entry, table[0]) for entry in table] for table in tables]
    return levelled, minus(orders, total, sum_up(orders, [table[0] for table in tables]))
