"""[74] to [76]: a live office, deed by deed."""

import unittest
from random import Random

from checkwright.errors import InvalidCode, InvalidDeed, InvalidSystem, NothingToRedo, NothingToUndo
from checkwright.office import LiveOffice, is_deed
from checkwright.slips import counts
from tests.helper import KINDS, Case, Group, all_slips, behind, shape, strange, strange_but, wrong_codes, wrong_counts, wrong_systems

THREE = ((3,), [[0, 1, 2], [0, 2, 1], [1, 2, 0]], 1)


class Model:
    """A live office as plain as can be: all right numbers, the deeds, and all done anew from the first one on."""

    def __init__(self, group, system):
        self.group, self.system = group, system
        self.right = group.right_codes(system)
        self.deeds, self.undone = [], []

    def standing(self):
        issued, struck = [], []
        for word, told in self.deeds:
            if word == "issue":
                issued = issued + told
            elif word == "next":
                issued = issued + [code for code in self.right if code not in issued and code not in struck][:told]
            else:
                issued, struck = [code for code in issued if code != told], struck + [told]
        return issued, struck

    def free(self):
        issued, struck = self.standing()
        return [code for code in self.right if code not in issued and code not in struck]

    def can(self, deed):
        word, told = deed
        if word == "issue":
            return told != [] and all(code in self.free() for code in told) and all(told.count(code) == 1 for code in told)
        return len(self.free()) >= told if word == "next" else told in self.standing()[0]

    def leading_to(self, codes):
        issued = self.standing()[0]
        slips = [slip for kind in KINDS for slip in all_slips(self.group.size, len(self.system[1]), kind)]
        return sorted((number, slip) for number in issued for slip in slips if behind(number, slip) in codes)


def some_deed(random, model):
    """A drawn deed, often one that can't be done."""
    issued, struck = model.standing()
    free = model.free()
    word = random.choice(["issue", "next", "strike"])
    if word == "next":
        return (word, random.randrange(1, 5))
    if word == "strike":
        return (word, list(random.choice(issued * 3 + struck + [random.choice(model.right)])))
    many = random.choice([1, 1, 2, 3])
    told = random.sample(free, min(many, len(free)))
    if random.random() < 0.3:
        told = told + random.choice([[random.choice(model.right)], [model.group.codes(model.system)[0]], told, issued[:1]])
    return (word, [list(code) for code in told])


class Office(Case):
    def agree(self, live, model):
        issued, struck = model.standing()
        free = model.free()
        self.same(live.system(), model.system)
        self.same(live.log(), model.deeds)
        self.same(live.in_use(), issued)
        self.same(live.struck(), struck)
        self.same(live.how_many_free(), len(free))
        self.same(live.first_free(), free[0] if free else None)
        self.same(live.clashes(), model.leading_to(issued))

    def agree_on_codes(self, live, model, codes):
        issued, struck = model.standing()
        for code in codes:
            state = "issued" if code in issued else "struck" if code in struck else "free" if code in model.right else "wrong"
            self.gives(state, live.state_of, code=code)
            self.gives(model.leading_to([code]), live.meant, code=code)

    def test_against_a_plain_model(self):
        random, words = Random(740), set()
        for orders, places in [((3,), 2), ((3,), 3), ((2,), 4), ((2, 2), 2), ((4,), 3), ((2, 3), 2)]:
            group = Group(orders)
            for _ in range(3):
                system = group.system(random, places)
                model, live = Model(group, system), LiveOffice(system)
                for _ in range(25):
                    self.step(random, live, model, words)
                    self.agree(live, model)
                self.agree_on_codes(live, model, random.sample(group.codes(system), min(12, group.size ** places)))
        self.assertEqual(len(words), 10)

    def step(self, random, live, model, words):
        """One drawn deed, or one taken back or done again, both here and there."""
        before = shape(live)
        what = random.choice(["do", "do", "do", "undo", "redo"])
        if what == "do":
            deed = some_deed(random, model)
            told = shape(deed)
            self.gives(model.can(deed), is_deed, live=live, value=deed)
            words.add((deed[0], model.can(deed)))
            if model.can(deed):
                self.assertIsNone(live.do(deed))
                model.deeds.append((deed[0], [list(code) for code in deed[1]] if deed[0] == "issue" else deed[1]))
                model.undone = []
            else:
                self.raises(InvalidDeed, deed, live.do, deed=deed)
                self.assertEqual(shape(live), before)
            self.assertEqual(shape(deed), told)
        elif (model.deeds if what == "undo" else model.undone):
            self.assertIsNone(live.undo() if what == "undo" else live.redo())
            taken, given = (model.deeds, model.undone) if what == "undo" else (model.undone, model.deeds)
            given.append(taken.pop())
            words.add(what)
        else:
            with self.assertRaises(NothingToUndo if what == "undo" else NothingToRedo) as caught:
                live.undo() if what == "undo" else live.redo()
            self.assertFalse(hasattr(caught.exception, "value"))
            self.assertEqual(shape(live), before)
            words.add("no more to " + what)

    def test_deeds(self):
        live = LiveOffice(THREE)
        live.do(("issue", [[0, 0, 0], [1, 1, 0]]))
        live.do(("strike", [1, 1, 0]))
        right = [
            ("issue", [[0, 1, 1]]), ("issue", [[0, 2, 2], [0, 1, 1]]), ("next", 1), ("next", 7), ("strike", [0, 0, 0]),
        ]
        free = [[0, 1, 1], [0, 2, 2]]
        wrong = strange() + [
            ("issue", []), ("issue", [[0, 0, 0]]), ("issue", [[1, 1, 0]]), ("issue", [[0, 0, 1]]), ("issue", [free[0], free[0]]),
            ("issue", free + [[0, 0, 0]]), ("issue", free + [[1, 1, 0]]), ("issue", free + [[0, 0, 1]]), ("issue", free[0]),
            ("issue", tuple(free)), ("issue", [tuple(free[0])]), ("issue", [[0, True, True]]), ("issue", [[0, 1, 1], None]),
            ("issue", [[0, 1]]), ("issue", [[0, 1, 1, 0]]), ("issue", [[0, 1, 3]]), ("issue", {0: free[0]}), ("issue",),
            ("issue", free, 0), ["issue", free], ("Issue", free), ("next", 0), ("next", -1), ("next", 8), ("next", 10 ** 29),
            ("next", True), ("next", None), ("next", [1]), ("next", "1"), ("next",), ["next", 1], ("next", 1, 1), ("nexts", 1),
            ("strike", [1, 1, 0]), ("strike", [0, 1, 1]), ("strike", [0, 0, 1]), ("strike", [0, 0, False]), ("strike", (0, 0, 0)),
            ("strike", [[0, 0, 0]]), ("strike", [0, 0]), ("strike", None), ["strike", [0, 0, 0]], (None, 1), (["next"], 1),
            ("strikes", [0, 0, 0]), ("Strike", [0, 0, 0]), ("", [0, 0, 0]), (None, [0, 0, 0]), (0, [0, 0, 0]), ([], [0, 0, 0]),
            ({}, 1), (1, "next"), ("", 1), "next", ("strike", []), ("next", "many"),
        ] + [("strike", bad) for bad in wrong_codes(3, 3)] + [("issue", [bad]) for bad in wrong_codes(3, 3)]
        wrong += [("next", bad) for bad in wrong_counts(1)] + [("issue", bad) for bad in strange()]
        self.judges(is_deed, right, wrong, live=live)
        before = shape(live)
        for deed in wrong:
            self.raises(InvalidDeed, deed, live.do, deed=deed)
        self.assertEqual(shape(live), before)
        for deed in right:
            other = live.copy()
            other.do(deed)
            self.same(other.log(), live.log() + [deed])
            other.undo()
            self.assertEqual(shape(other), before)

    def test_what_is_no_live_office(self):
        other = [value for value in strange() if not isinstance(value, LiveOffice)] + [THREE, [LiveOffice(THREE)], LiveOffice, "live", 3]
        for value in [("next", 1), None, [], "word", ("issue", [])]:
            for live in other:
                self.raises(InvalidDeed, live, is_deed, live=live, value=value)

    def test_systems(self):
        for system in wrong_systems():
            if not isinstance(system, LiveOffice):
                self.raises(InvalidSystem, system, LiveOffice, system=system)
        self.raises(InvalidSystem, None, LiveOffice, system=None)
        self.same(LiveOffice(system=THREE).system(), THREE)

    def test_wrong_codes(self):
        live = LiveOffice(THREE)
        live.do(("next", 2))
        for code in wrong_codes(3, 3):
            for function in (live.state_of, live.meant):
                self.raises(InvalidCode, code, function, code=code)

    def test_equal_exactly_if_systems_and_logs_are(self):
        live = LiveOffice(THREE)
        self.assertEqual(live, LiveOffice(THREE))
        self.assertNotEqual(live, LiveOffice(((3,), THREE[1], 2)))
        self.assertNotEqual(live, LiveOffice(((3,), THREE[1][:2], 1)))
        live.do(("next", 1))
        other = LiveOffice(THREE)
        self.assertFalse(live == other)
        self.assertTrue(live != other)
        other.do(("issue", [[0, 0, 0]]))
        self.same(live.in_use(), other.in_use())
        self.assertNotEqual(live, other)
        other.undo()
        other.do(("next", 1))
        self.assertEqual(live, other)
        live.do(("next", 1))
        live.undo()
        self.assertEqual(live, other)
        for value in strange_but(live) + [THREE, live.log(), "live", 3, LiveOffice]:
            self.assertIs(live == value, False)
            self.assertIs(value == live, False)
            self.assertIs(live != value, True)

    def test_copies_go_their_own_way(self):
        live = LiveOffice(THREE)
        live.do(("next", 2))
        live.do(("issue", [[2, 2, 0]]))
        live.do(("strike", [0, 0, 0]))
        live.undo()
        live.undo()
        other = live.copy()
        self.assertIs(type(other), LiveOffice)
        self.assertEqual(other, live)
        other.redo()
        other.redo()
        self.same(other.struck(), [[0, 0, 0]])
        self.same(live.struck(), [])
        self.same(live.in_use(), [[0, 0, 0], [0, 1, 1]])
        live.redo()
        self.same(live.in_use(), [[0, 0, 0], [0, 1, 1], [2, 2, 0]])
        for _ in range(3):
            other.undo()
        with self.assertRaises(NothingToUndo):
            other.undo()
        self.same(live.in_use(), [[0, 0, 0], [0, 1, 1], [2, 2, 0]])
        live.do(("next", 1))
        for one, many in ((other, 3), (live, 0)):
            for _ in range(many):
                one.redo()
            with self.assertRaises(NothingToRedo):
                one.redo()

    def test_struck_ones_go_back_to_their_places(self):
        live = LiveOffice(THREE)
        live.do(("issue", [[2, 2, 0], [0, 0, 0], [1, 1, 0]]))
        live.do(("strike", [0, 0, 0]))
        self.same(live.in_use(), [[2, 2, 0], [1, 1, 0]])
        live.undo()
        self.same(live.in_use(), [[2, 2, 0], [0, 0, 0], [1, 1, 0]])
        live.redo()
        live.do(("strike", [2, 2, 0]))
        self.same(live.struck(), [[0, 0, 0], [2, 2, 0]])
        self.same(live.how_many_free(), 6)
        self.gives(False, is_deed, live=live, value=("issue", [[0, 0, 0]]))
        live.do(("next", 6))
        self.same(live.how_many_free(), 0)
        self.same(live.first_free(), None)
        self.gives(False, is_deed, live=live, value=("next", 1))
        self.assertNotIn([0, 0, 0], live.in_use())

    def test_what_is_handed_in_or_told_may_be_changed(self):
        system = ((3,), [[0, 1, 2], [0, 2, 1], [1, 2, 0]], 1)
        live = LiveOffice(system)
        codes, struck = [[2, 2, 0], [0, 0, 0], [1, 1, 0]], [0, 0, 0]
        live.do(("issue", codes))
        live.do(("strike", struck))
        system[1][0].reverse()
        codes[0][0] = 1
        codes.pop()
        struck.append(3)
        before = shape(live)
        wanted = LiveOffice(THREE)
        wanted.do(("issue", [[2, 2, 0], [0, 0, 0], [1, 1, 0]]))
        wanted.do(("strike", [0, 0, 0]))
        self.assertEqual(before, shape(wanted))
        for tell in (live.system, live.log, live.in_use, live.struck, live.first_free, live.clashes, lambda: live.meant([2, 1, 0])):
            self.run_it(tell)
            self.assertEqual(shape(live), before)
            self.assertEqual(live, wanted)
        self.same(live.in_use(), [[2, 2, 0], [1, 1, 0]])

    def test_clashes_and_what_was_meant(self):
        random = Random(760)
        for orders, places in [((3,), 3), ((4,), 3), ((2, 2), 4), ((2,), 6)]:
            group = Group(orders)
            for system in (group.system(random, places), (orders, [list(range(group.size))] * places, 0)):
                model, live = Model(group, system), LiveOffice(system)
                many = min(len(model.right), 20)
                deed = ("issue", random.sample(model.right, many))
                live.do(deed)
                model.deeds.append(deed)
                for _ in range(2):
                    self.same(live.clashes(), model.leading_to(model.standing()[0]))
                    self.agree_on_codes(live, model, random.sample(group.codes(system), 12))
                    deed = ("strike", live.in_use()[1])
                    live.do(deed)
                    model.deeds.append(deed)
                passing = {(kind, place) for kind in KINDS for place, found in enumerate(counts(system, kind)) if found}
                self.assertTrue({slip[:2] for _, slip in live.clashes()} <= passing)
                self.assertFalse([slip for _, slip in live.clashes() if slip[0] == "single"])

    def test_sixty_numbers_of_forty_signs_and_places(self):
        up = list(range(40))
        system = ((40,), [up] * 40, 0)
        live = LiveOffice(system)
        with self.within_seconds():
            live.do(("next", 58))
            exchanged = [[0] * 37 + [39, 0, 1], [0] * 37 + [39, 1, 0]]
            self.assertTrue(is_deed(live, ("issue", exchanged)))
            live.do(("issue", exchanged))
            self.assertTrue(is_deed(live, ("next", 40 ** 39 - 60)))
            self.assertFalse(is_deed(live, ("next", 40 ** 39 - 59)))
            self.same(live.how_many_free(), 40 ** 39 - 60)
            self.assertEqual(len(live.in_use()), 60)
            clashes = live.clashes()
            meant = live.meant([0] * 40)
            live.do(("strike", [0] * 40))
            first = live.first_free()
        self.assertIn(([0] * 38 + [1, 39], ("swap", 38, 1, 39)), clashes)
        self.assertIn((exchanged[0], ("swap", 38, 0, 1)), clashes)
        self.assertIn(([0] * 37 + [1, 0, 39], ("jump", 37, 1, 39)), clashes)
        self.assertEqual(clashes, sorted(clashes))
        self.assertEqual(meant, [([0] * 38 + [20, 20], ("twin", 38, 20, 0))])
        self.assertEqual(first, [0] * 37 + [1, 18, 21])


if __name__ == "__main__":
    unittest.main()
