"""The examples of the document, line by line, each with the result that stands under it."""

import unittest
from ast import literal_eval

from tests.helper import Case

TEXTS = r"""
from checkwright.groups import added, are_orders, figures, is_member, member_of, opposite, order_of, same_group, size, total_of
from checkwright.systems import can_befall, is_code, is_right, is_row, is_slip, is_system, is_table, plain_system, slipped, sum_of
from checkwright.texts import code_of_text, is_alphabet, system_of_text, text_of_code, text_of_system
[are_orders((2, 5)), are_orders((10, 1)), size((2, 5)), is_member((2, 5), 9), is_member((2, 5), 10), figures((2, 5), 8), member_of((2, 5), (1, 3)), added((2, 5), 8, 9), added((10,), 8, 9)]
# [True, False, 10, True, False, (1, 3), 8, 2, 7]
[opposite((2, 5), 8), total_of((2, 2), [0, 1, 2, 3]), total_of((4,), [0, 1, 2, 3]), total_of((4,), []), order_of((2, 5), 5), order_of((2, 5), 8), same_group((2, 5), (10,)), same_group((2, 2), (4,))]
# [7, 0, 2, 0, 2, 10, True, False]
three = ((3,), [[0, 1, 2], [0, 2, 1]], 0)
[is_table((3,), [0, 2, 1]), is_table((3,), [0, 2, 2]), is_row((3,), [0, 2, 2]), is_system(three), is_code(three, [1, 1]), sum_of(three, [1, 1]), is_right(three, [1, 2]), plain_system((3,), 2)]
# [True, False, True, True, True, 0, False, ((3,), [[0, 1, 2], [0, 1, 2]], 0)]
[is_slip(three, ("swap", 0, 1, 2)), is_slip(three, ("swap", 1, 1, 2)), is_slip(three, ("single", 1, 1, 1)), can_befall(three, [1, 2], ("swap", 0, 1, 2)), slipped(three, [1, 2], ("swap", 0, 1, 2)), slipped(three, [1, 1], ("twin", 0, 1, 0))]
# [True, False, False, True, [2, 1], [0, 0]]
[text_of_code(three, "abc", [1, 2]), code_of_text(three, "abc", "bc"), text_of_system(three, "abc"), system_of_text("abc", "3\nabc\nacb\ntotal: 0\n") == three, is_alphabet(3, "abb")]
# ["bc", [1, 2], "3\nabc\nacb\ntotal: 0\n", True, False]
[text_of_system(((3,), [[1, 2, 0], [0, 1, 2]], 2), "abc"), text_of_system(((2, 2), [[0, 1, 2, 3], [3, 0, 1, 2]], 3), "abcd")]
# ["3\ncab\nabc\ntotal: 2\n", "2,2\nabcd\nbcda\ntotal: 3\n"]
"""

WORK = r"""
from checkwright.alike import are_alike, how_many_alike, least_alike, parting, ways_same
from checkwright.checking import added_to, fixed_at, how_many_codes, put_together, off_by, with_signs, reordered, set_right, sign_wanted
three = ((3,), [[0, 1, 2], [0, 1, 2], [0, 2, 1]], 1)
[off_by(three, [1, 1, 1]), off_by(three, [1, 2, 1]), sign_wanted(three, [1, 2, 1], 2), set_right(three, [1, 2, 1], 0), how_many_codes(three)]
# [0, 1, 2, [0, 2, 1], 9]
[with_signs(three, [2, 0, 1]), reordered(three, [2, 0, 1]), added_to(three, 0, 2), fixed_at(three, 2, 1)]
# [((3,), [[1, 2, 0], [1, 2, 0], [2, 1, 0]], 1), ((3,), [[0, 2, 1], [0, 1, 2], [0, 1, 2]], 1), ((3,), [[2, 0, 1], [0, 1, 2], [0, 2, 1]], 0), ((3,), [[0, 1, 2], [0, 1, 2]], 2)]
[put_together(fixed_at(three, 2, 1), fixed_at(three, 2, 1)), are_alike(three, added_to(three, 0, 2)), are_alike(three, ((3,), [[0, 2, 1], [0, 2, 1], [0, 1, 2]], 2)), parting(three, ((3,), three[1], 1))]
# [((3,), [[0, 1, 2], [0, 1, 2], [0, 1, 2], [0, 1, 2]], 1), True, True, None]
[ways_same((4,)), len(ways_same((2, 2))), len(ways_same((2, 2, 2))), least_alike(((4,), [[1, 0, 3, 2], [2, 3, 1, 0], [3, 2, 1, 0]], 2))]
# [[[0, 1, 2, 3], [0, 3, 2, 1]], 6, 168, ((4,), [[0, 1, 2, 3], [0, 3, 1, 2], [0, 1, 2, 3]], 0)]
[least_alike(((2, 2), [[0, 2, 1, 3], [1, 0, 3, 2], [0, 1, 2, 3]], 3)), how_many_alike(three), how_many_alike(((3,), three[1][:2], 0)), are_alike(((4,), [[0, 1, 2, 3], [0, 1, 2, 3]], 0), ((2, 2), [[0, 1, 2, 3], [0, 3, 2, 1]], 0))]
# [((2, 2), [[0, 1, 2, 3], [0, 2, 1, 3], [0, 2, 1, 3]], 1), 54, 18, True]
"""

ROWS = r"""
from checkwright.rows import by_signs, row_can_come, differences, is_next, next_by_sums, next_table, sums, tables_of
from checkwright.walks import are_rounds, changed, is_changed, rounds
four, plain = (4,), [0, 1, 2, 3]
[differences(four, plain, [0, 2, 1, 3]), sums(four, plain, [0, 2, 1, 3]), row_can_come(four, [1, 1, 1, 1]), row_can_come(four, [0, 1, 2, 3]), row_can_come(four, [0, 1, 1, 2]), row_can_come((2, 2), [0, 1, 2, 3])]
# [[0, 3, 1, 0], [0, 3, 3, 2], True, False, True, True]
first, second = tables_of(four, [0, 1, 1, 2])
[differences(four, first, second), sorted(differences(four, plain, next_table(four, plain, [0, 1, 1, 2]))), sorted(sums(four, plain, next_by_sums(four, plain, [0, 1, 1, 2])))]
# [[0, 1, 1, 2], [0, 1, 1, 2], [0, 1, 1, 2]]
[by_signs(four, plain, [0, 3, 1, 0]), by_signs(four, plain, [0, 1, 1, 2]), is_next(four, plain, [0, 1, 1, 2], [0, 1, 2, 3])]
# [[0, 2, 1, 3], None, False]
[is_changed(four, plain, plain, 0, 0, 1, changed(four, plain, plain, 0, 0, 1)), is_changed(four, plain, plain, 0, 0, 1, [1, 0, 2, 3]), are_rounds(four, [0, 1, 1, 2], rounds(four, [0, 1, 1, 2]))]
# [True, True, True]
[are_rounds((3,), [1, 1, 1], [[0, 1, 2], [0, 2, 1], [1, 2, 0]]), are_rounds((3,), [1, 1, 1], [[0, 1, 2], [0, 2, 1], [2, 0, 1]]), is_changed((3,), [1, 2, 0], [0, 1, 2], 1, 1, 0, [0, 1, 2])]
# [True, False, False]
"""

# Without what these lines ask of checkwright.quiet, which is not written yet.
WISHES = r"""
from checkwright.wishes import extended, first_uneven, is_wish, keeps, keeps_all, rewished, system_for
two = ((3,), [[0, 1, 2], [0, 2, 1]], 0)
[keeps(two, 0, ("swap", [2, 1, 0])), keeps(two, 0, ("swap", [0, 0, 0])), keeps(two, 0, ("twin", [0, 0, 0]))]
# [True, False, True]
wishes = [("swap", [0, 0, 0, 0, 5, 5, 1, 2, 3, 4]), ("twin", [7] * 10), ("swap", [1, 1, 2, 3, 4, 6, 7, 8, 9, 9])]
[first_uneven((10,), wishes), keeps_all(system_for((10,), [9, 8, 7, 6, 5, 4, 3, 2, 1, 0], wishes, 3), wishes), first_uneven((10,), [("swap", list(range(10)))])]
# [None, True, 0]
[is_wish((3,), ("twin", [1, 1, 1])), is_wish((3,), ("jump", [0, 0, 0]))]
# [True, False]
[keeps_all(extended(two, ("twin", [1, 1, 1])), [("swap", [0, 1, 2]), ("twin", [1, 1, 1])]), keeps(rewished(two, 0, ("swap", [1, 1, 1])), 0, ("swap", [1, 1, 1]))]
# [True, True]
"""


class Examples(Case):
    def run_lines(self, text):
        """Run all lines in order; a line that a comment follows has to come to what the comment says."""
        known, judged = {}, 0
        lines = text.strip().split("\n") + [""]
        for line, below in zip(lines, lines[1:]):
            if below.startswith("# "):
                with self.subTest(line=line):
                    self.same(eval(line, known), literal_eval(below[2:]))
                judged += 1
            elif line and not line.startswith("# "):
                exec(line, known)
        self.assertEqual(judged, text.count("\n# "))
        self.assertGreater(judged, 3)

    def test_texts(self):
        self.run_lines(TEXTS)

    def test_work(self):
        self.run_lines(WORK)

    def test_rows(self):
        self.run_lines(ROWS)

    def test_wishes(self):
        self.run_lines(WISHES)


if __name__ == "__main__":
    unittest.main()
