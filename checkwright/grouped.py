"""Groups told by a table, and boxes: systems over groups that may not commute."""

from checkwright.errors import InvalidCode, InvalidGroup, InvalidMember, InvalidNumber, InvalidSystem
from checkwright.groups import check_orders
from checkwright.plain import are_below, equal_pairs, is_below, is_each_once, paired, plus, size_of


def is_group(value):
    """Whether any value is a group."""
    if not isinstance(value, list) or len(value) == 0:
        return False
    many = len(value)
    if not all([are_below(row, many) and len(row) == many for row in value]):
        return False
    plain = list(range(many))
    if value[0] != plain or [row[0] for row in value] != plain:
        return False
    return is_associative(value) and all([has_inverse(value, member) for member in plain])


def group_of(orders):
    """The group of the members of orders under adding."""
    check_orders(orders)
    members = list(range(size_of(orders)))
    return [[plus(orders, one, two) for two in members] for one in members]


def joined(group, other):
    """The group of the pairs of members of two groups, multiplied each for itself."""
    check_group(group)
    check_group(other)
    return paired(group, other)


def inverse(group, member):
    """The member that gives 0 with this one, in either order."""
    check_group(group)
    if not is_below(member, len(group)):
        raise InvalidMember(member)
    return inverse_of(group, member)


def commutes(group):
    """Whether all products are the same in either order."""
    check_group(group)
    return do_commute(group)


def is_box(value):
    """Whether any value is a box."""
    if not isinstance(value, tuple) or len(value) != 3:
        return False
    group, tables, total = value
    if not is_group(group) or not isinstance(tables, list) or len(tables) < 2:
        return False
    return all([is_each_once(table, len(group)) for table in tables]) and is_below(total, len(group))


def product_of(box, code):
    """The product of the members of all signs of a number, in the order of the places."""
    check_box(box)
    check_code_of_box(box, code)
    return multiplied(box[0], members_borne(box, code))


def is_right_box(box, code):
    """Whether a number is right."""
    return product_of(box, code) == box[2]


def sign_for(box, code, place):
    """The sign that has to stand at a place for the number to be right."""
    check_box(box)
    check_code_of_box(box, code)
    if not is_below(place, len(code)):
        raise InvalidNumber(place)
    group, tables, total = box
    members = members_borne(box, code)
    ahead = inverse_of(group, multiplied(group, members[:place]))
    behind = inverse_of(group, multiplied(group, members[place + 1:]))
    return tables[place].index(multiplied(group, [ahead, total, behind]))


def passing_swaps(box, place):
    """The pairs of unlike signs, in order, whose exchange at a place and the next one is not seen."""
    check_place_of_box(box, place)
    return swaps_at(box, place)


def passing_twins(box, place):
    """The pairs of unlike signs, in order, whose twins at a place and the next one are not told apart."""
    check_place_of_box(box, place)
    group, tables, _ = box
    products = [group[one][two] for one, two in zip(tables[place], tables[place + 1])]
    return equal_pairs(products)


def is_quiet_box(box):
    """Whether no exchange of neighbours passes at any place."""
    check_box(box)
    return all([swaps_at(box, place) == [] for place in range(len(box[1]) - 1)])


def check_group(group):
    """Raise InvalidGroup unless this is a group."""
    if not is_group(group):
        raise InvalidGroup(group)


def check_box(box):
    """Raise InvalidSystem unless this is a box."""
    if not is_box(box):
        raise InvalidSystem(box)


def check_code_of_box(box, code):
    """Raise InvalidCode unless this is a number of the box."""
    if not are_below(code, len(box[0])) or len(code) != len(box[1]):
        raise InvalidCode(code)


def check_place_of_box(box, place):
    """Raise the error of the first of these arguments that is wrong; a place needs a next one."""
    check_box(box)
    if not is_below(place, len(box[1]) - 1):
        raise InvalidNumber(place)


def is_associative(group):
    """Whether products of three may be put together either way, of a square list of its own numbers."""
    for row in group:
        for one, other in enumerate(group):
            # The row of a product has to be what the first row makes of the second one.
            if group[row[one]] != [row[entry] for entry in other]:
                return False
    return True


def has_inverse(group, member):
    """Whether some member gives 0 with this one, in either order."""
    return any([entry == 0 and group[other][member] == 0 for other, entry in enumerate(group[member])])


def inverse_of(group, member):
    """The inverse of what is known to be a member."""
    return group[member].index(0)


def do_commute(group):
    """Whether what is known to be a group commutes."""
    return all([row == [other[one] for other in group] for one, row in enumerate(group)])


def multiplied(group, members):
    """The product of a list of members, in its order."""
    product = 0
    for member in members:
        product = group[product][member]
    return product


def members_borne(box, code):
    """The members that the signs of a number bear."""
    return [table[sign] for table, sign in zip(box[1], code)]


def swaps_at(box, place):
    """The pairs of signs whose exchange passes at a place that is known to have a next one."""
    group, first, second = box[0], box[1][place], box[1][place + 1]
    return [
        (one, two) for one in range(len(first)) for two in range(one + 1, len(first))
        if group[first[one]][second[two]] == group[first[two]][second[one]]
    ]
