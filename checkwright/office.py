"""A live office: the numbers of a system that were issued and struck, deed by deed."""

from checkwright.checking import copied
from checkwright.errors import InvalidDeed, NothingToRedo, NothingToUndo
from checkwright.mending import filled
from checkwright.plain import is_from, power, size_of
from checkwright.systems import check_code, check_system, is_code_of, sum_borne


class LiveOffice:
    """What was issued and struck of a system, and how it came about."""

    def __init__(self, system):
        check_system(system)
        self._told = copied_system(system)
        # Behind each deed what is issued and what is struck since then, all of it tuples that nobody can change.
        self._done = []
        self._undone = []

    def __eq__(self, other):
        if not isinstance(other, LiveOffice):
            return False
        return self._told == other._told and self.log() == other.log()

    def system(self):
        """The system."""
        return copied_system(self._told)

    def do(self, deed):
        """Do a deed, and forget what was undone."""
        if not is_deed(self, deed):
            raise InvalidDeed(deed)
        issued, struck = self._standing()
        if deed[0] == "strike":
            code = tuple(deed[1])
            issued, struck = tuple([one for one in issued if one != code]), struck + (code,)
        else:
            codes = deed[1] if deed[0] == "issue" else first_free_ones(self._told, issued + struck, deed[1])
            issued = issued + tuple([tuple(code) for code in codes])
        self._done.append((frozen_deed(deed), issued, struck))
        self._undone = []

    def undo(self):
        """Take the last deed back that is not taken back yet."""
        if len(self._done) == 0:
            raise NothingToUndo()
        self._undone.append(self._done.pop())

    def redo(self):
        """Do again what was taken back last."""
        if len(self._undone) == 0:
            raise NothingToRedo()
        self._done.append(self._undone.pop())

    def log(self):
        """The deeds that are done and not taken back, the first one first."""
        return [told_deed(deed) for deed, _, _ in self._done]

    def copy(self):
        """An equal live office with the same to undo and to redo, which goes its own way."""
        other = LiveOffice(self._told)
        other._done = list(self._done)
        other._undone = list(self._undone)
        return other

    def in_use(self):
        """The issued numbers, in the order in which they were issued."""
        return [list(code) for code in self._standing()[0]]

    def struck(self):
        """The struck numbers, in the order in which they were struck."""
        return [list(code) for code in self._standing()[1]]

    def how_many_free(self):
        """How many right numbers are neither issued nor struck."""
        issued, struck = self._standing()
        return power(size_of(self._told[0]), len(self._told[1]) - 1) - len(issued) - len(struck)

    def first_free(self):
        """The first free number in order, None if there is none."""
        if self.how_many_free() == 0:
            return None
        issued, struck = self._standing()
        return first_free_ones(self._told, issued + struck, 1)[0]

    def state_of(self, code):
        """Whether a number is issued, struck, free or wrong."""
        check_code(self._told, code)
        issued, struck = self._standing()
        if tuple(code) in issued:
            return "issued"
        if tuple(code) in struck:
            return "struck"
        return "free" if sum_borne(self._told, code) == self._told[2] else "wrong"

    def meant(self, code):
        """The tuples of an issued number and of a slip by which it becomes a number, in order."""
        check_code(self._told, code)
        return self._leading_to([tuple(code)])

    def clashes(self):
        """The tuples of an issued number and of a slip by which it becomes another one, in order."""
        return self._leading_to(self._standing()[0])

    def _standing(self):
        """What is issued now, and what is struck."""
        if len(self._done) == 0:
            return ((), ())
        return (self._done[-1][1], self._done[-1][2])

    def _leading_to(self, codes):
        """The tuples of an issued number and of a slip by which it becomes one of some numbers, in order."""
        found = []
        for number in self._standing()[0]:
            slips = [slip_between(number, code) for code in codes]
            found.extend([(list(number), slip) for slip in slips if slip is not None])
        return sorted(found)


def is_deed(live, value):
    """Whether a value is a deed that can be done now."""
    if not isinstance(live, LiveOffice):
        raise InvalidDeed(live)
    if not isinstance(value, tuple) or len(value) != 2:
        return False
    word, told = value
    if word == "issue":
        return are_unlike_free(live, told)
    if word == "next":
        return is_from(told, 1) and told <= live.how_many_free()
    return word == "strike" and is_in_state(live, told, "issued")


def are_unlike_free(live, value):
    """Whether any value is a list, not empty, of unlike free numbers of a live office."""
    if not isinstance(value, list) or len(value) == 0:
        return False
    if not all([is_in_state(live, code, "free") for code in value]):
        return False
    return len({tuple(code) for code in value}) == len(value)


def is_in_state(live, value, state):
    """Whether any value is a number of a live office in a state."""
    return is_code_of(live.system(), value) and live.state_of(value) == state


def first_free_ones(system, gone, many):
    """The first so many right numbers, in order, that are not among those that are gone."""
    gaps, known = [None] * len(system[1]), {code: True for code in gone}
    found, number = [], 0
    while len(found) < many:
        code = filled(system, gaps, number)
        if tuple(code) not in known:
            found.append(code)
        number = number + 1
    return found


def slip_between(number, code):
    """The slip by which a number becomes another one, None if there is none; there is never more than one."""
    places = [place for place, sign in enumerate(number) if sign != code[place]]
    if len(places) == 1:
        return ("single", places[0], number[places[0]], code[places[0]])
    if len(places) != 2 or places[1] - places[0] > 2:
        return None
    first, last = places
    near = last - first == 1
    if (number[first], number[last]) == (code[last], code[first]):
        return ("swap" if near else "jump", first, number[first], number[last])
    if number[first] == number[last] and code[first] == code[last]:
        return ("twin" if near else "jumptwin", first, number[first], code[first])
    return None


def copied_system(system):
    """A system with the same orders, tables and total, of new lists."""
    orders, tables, total = system
    return (orders, copied(tables), total)


def frozen_deed(deed):
    """What is known to be a deed, of tuples alone."""
    word, told = deed
    if word == "issue":
        return (word, tuple([tuple(code) for code in told]))
    return (word, told if word == "next" else tuple(told))


def told_deed(deed):
    """A deed as it was handed in, of one that is frozen."""
    word, told = deed
    if word == "issue":
        return (word, [list(code) for code in told])
    return (word, told if word == "next" else list(told))
