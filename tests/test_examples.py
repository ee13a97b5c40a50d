"""The examples of the document, line by line, each with the result that stands under it."""

import unittest
from ast import literal_eval

from tests.helper import Case

TEXTS = r"""
from checkwright.groups import added, are_orders, figures, is_member, member_of, opposite, order_of, same_group, size, total_of
from checkwright.systems import can_befall, is_code, is_right, is_row, is_slip, is_system, is_table, plain_system, slipped, sum_of
from checkwright.texts import code_of_text, is_alphabet, system_of_text, text_of_code, text_of_system
[are_orders((2, 5)), are_orders((10, 1)), size((2, 5)), is_member((2, 5), 9), is_member((2, 5), 10), figures((2, 5), 8), member_of((2, 5), (1, 3)), added((2, 5), 8, 9), added((10,), 8, 9)]
# [True, False, 10, True, False, (1, 3), 8, 2, 7]
[opposite((2, 5), 8), total_of((2, 2), [0, 1, 2, 3]), total_of((4,), [0, 1, 2, 3]), total_of((4,), []), order_of((2, 5), 5), order_of((2, 5), 8), same_group((2, 5), (10,)), same_group((2, 2), (4,))]
# [7, 0, 2, 0, 2, 10, True, False]
three = ((3,), [[0, 1, 2], [0, 2, 1]], 0)
[is_table((3,), [0, 2, 1]), is_table((3,), [0, 2, 2]), is_row((3,), [0, 2, 2]), is_system(three), is_code(three, [1, 1]), sum_of(three, [1, 1]), is_right(three, [1, 2]), plain_system((3,), 2)]
# [True, False, True, True, True, 0, False, ((3,), [[0, 1, 2], [0, 1, 2]], 0)]
[is_slip(three, ("swap", 0, 1, 2)), is_slip(three, ("swap", 1, 1, 2)), is_slip(three, ("single", 1, 1, 1)), can_befall(three, [1, 2], ("swap", 0, 1, 2)), slipped(three, [1, 2], ("swap", 0, 1, 2)), slipped(three, [1, 1], ("twin", 0, 1, 0))]
# [True, False, False, True, [2, 1], [0, 0]]
[text_of_code(three, "abc", [1, 2]), code_of_text(three, "abc", "bc"), text_of_system(three, "abc"), system_of_text("abc", "3\nabc\nacb\ntotal: 0\n") == three, is_alphabet(3, "abb")]
# ["bc", [1, 2], "3\nabc\nacb\ntotal: 0\n", True, False]
[text_of_system(((3,), [[1, 2, 0], [0, 1, 2]], 2), "abc"), text_of_system(((2, 2), [[0, 1, 2, 3], [3, 0, 1, 2]], 3), "abcd")]
# ["3\ncab\nabc\ntotal: 2\n", "2,2\nabcd\nbcda\ntotal: 3\n"]
"""

WORK = r"""
from checkwright.alike import are_alike, how_many_alike, least_alike, parting, ways_same
from checkwright.checking import added_to, fixed_at, how_many_codes, put_together, off_by, with_signs, reordered, set_right, sign_wanted
three = ((3,), [[0, 1, 2], [0, 1, 2], [0, 2, 1]], 1)
[off_by(three, [1, 1, 1]), off_by(three, [1, 2, 1]), sign_wanted(three, [1, 2, 1], 2), set_right(three, [1, 2, 1], 0), how_many_codes(three)]
# [0, 1, 2, [0, 2, 1], 9]
[with_signs(three, [2, 0, 1]), reordered(three, [2, 0, 1]), added_to(three, 0, 2), fixed_at(three, 2, 1)]
# [((3,), [[1, 2, 0], [1, 2, 0], [2, 1, 0]], 1), ((3,), [[0, 2, 1], [0, 1, 2], [0, 1, 2]], 1), ((3,), [[2, 0, 1], [0, 1, 2], [0, 2, 1]], 0), ((3,), [[0, 1, 2], [0, 1, 2]], 2)]
[put_together(fixed_at(three, 2, 1), fixed_at(three, 2, 1)), are_alike(three, added_to(three, 0, 2)), are_alike(three, ((3,), [[0, 2, 1], [0, 2, 1], [0, 1, 2]], 2)), parting(three, ((3,), three[1], 1))]
# [((3,), [[0, 1, 2], [0, 1, 2], [0, 1, 2], [0, 1, 2]], 1), True, True, None]
[ways_same((4,)), len(ways_same((2, 2))), len(ways_same((2, 2, 2))), least_alike(((4,), [[1, 0, 3, 2], [2, 3, 1, 0], [3, 2, 1, 0]], 2))]
# [[[0, 1, 2, 3], [0, 3, 2, 1]], 6, 168, ((4,), [[0, 1, 2, 3], [0, 3, 1, 2], [0, 1, 2, 3]], 0)]
[least_alike(((2, 2), [[0, 2, 1, 3], [1, 0, 3, 2], [0, 1, 2, 3]], 3)), how_many_alike(three), how_many_alike(((3,), three[1][:2], 0)), are_alike(((4,), [[0, 1, 2, 3], [0, 1, 2, 3]], 0), ((2, 2), [[0, 1, 2, 3], [0, 3, 2, 1]], 0))]
# [((2, 2), [[0, 1, 2, 3], [0, 2, 1, 3], [0, 2, 1, 3]], 1), 54, 18, True]
"""

ROWS = r"""
from checkwright.rows import by_signs, row_can_come, differences, is_next, next_by_sums, next_table, sums, tables_of
from checkwright.walks import are_rounds, changed, is_changed, rounds
four, plain = (4,), [0, 1, 2, 3]
[differences(four, plain, [0, 2, 1, 3]), sums(four, plain, [0, 2, 1, 3]), row_can_come(four, [1, 1, 1, 1]), row_can_come(four, [0, 1, 2, 3]), row_can_come(four, [0, 1, 1, 2]), row_can_come((2, 2), [0, 1, 2, 3])]
# [[0, 3, 1, 0], [0, 3, 3, 2], True, False, True, True]
first, second = tables_of(four, [0, 1, 1, 2])
[differences(four, first, second), sorted(differences(four, plain, next_table(four, plain, [0, 1, 1, 2]))), sorted(sums(four, plain, next_by_sums(four, plain, [0, 1, 1, 2])))]
# [[0, 1, 1, 2], [0, 1, 1, 2], [0, 1, 1, 2]]
[by_signs(four, plain, [0, 3, 1, 0]), by_signs(four, plain, [0, 1, 1, 2]), is_next(four, plain, [0, 1, 1, 2], [0, 1, 2, 3])]
# [[0, 2, 1, 3], None, False]
[is_changed(four, plain, plain, 0, 0, 1, changed(four, plain, plain, 0, 0, 1)), is_changed(four, plain, plain, 0, 0, 1, [1, 0, 2, 3]), are_rounds(four, [0, 1, 1, 2], rounds(four, [0, 1, 1, 2]))]
# [True, True, True]
[are_rounds((3,), [1, 1, 1], [[0, 1, 2], [0, 2, 1], [1, 2, 0]]), are_rounds((3,), [1, 1, 1], [[0, 1, 2], [0, 2, 1], [2, 0, 1]]), is_changed((3,), [1, 2, 0], [0, 1, 2], 1, 1, 0, [0, 1, 2])]
# [True, False, False]
"""

WISHES = r"""
from checkwright.quiet import is_quiet, passing_counts, quiet_orders, quiet_system, quietest
from checkwright.wishes import extended, first_uneven, is_wish, keeps, keeps_all, rewished, system_for
two = ((3,), [[0, 1, 2], [0, 2, 1]], 0)
[keeps(two, 0, ("swap", [2, 1, 0])), keeps(two, 0, ("swap", [0, 0, 0])), keeps(two, 0, ("twin", [0, 0, 0])), passing_counts(two)]
# [True, False, True, [(0, 3)]]
wishes = [("swap", [0, 0, 0, 0, 5, 5, 1, 2, 3, 4]), ("twin", [7] * 10), ("swap", [1, 1, 2, 3, 4, 6, 7, 8, 9, 9])]
[first_uneven((10,), wishes), keeps_all(system_for((10,), [9, 8, 7, 6, 5, 4, 3, 2, 1, 0], wishes, 3), wishes), first_uneven((10,), [("swap", list(range(10)))])]
# [None, True, 0]
[passing_counts(system_for((10,), list(range(10)), wishes[:2], 0))[0][0], passing_counts(system_for((10,), list(range(10)), wishes[1:2], 0))[0][1]]
# [7, 45]
[is_quiet(quiet_system((2, 2), 5)), quiet_system((10,), 4), [pair[0] for pair in passing_counts(quietest((10,), ["swap"] * 3))], passing_counts(quietest((7,), ["swap", "twin"]))[1][1]]
# [True, None, [1, 1, 1], 0]
[quiet_orders(7), quiet_orders(12), quiet_orders(10), quiet_orders(2), is_wish((3,), ("twin", [1, 1, 1])), is_wish((3,), ("jump", [0, 0, 0]))]
# [(7,), (2, 6), None, None, True, False]
[keeps_all(extended(two, ("twin", [1, 1, 1])), [("swap", [0, 1, 2]), ("twin", [1, 1, 1])]), keeps(rewished(two, 0, ("swap", [1, 1, 1])), 0, ("swap", [1, 1, 1]))]
# [True, True]
"""

LEAST = r"""
from checkwright.classes import all_counts, all_sizes, can_come, is_with, members_for, sizes_of, tables_passing, tables_with
from checkwright.least import best_tables, halves, how_many_pass, is_best, least_passing, passing_pairs, sum_of_all
[halves((10,)), halves((2, 6)), halves((15,)), sum_of_all((10,)), sum_of_all((2, 2)), least_passing((10,)), least_passing((2, 4)), least_passing((3, 10))]
# [[5], [3, 6, 9], [], 5, 0, 1, 0, 1]
[passing_pairs((3,), "swap", [0, 1, 2], [0, 1, 2]), how_many_pass((3,), "twin", [0, 1, 2], [0, 1, 2]), is_best((3,), "swap", ([0, 1, 2], [0, 2, 1])), is_best((3,), "twin", ([0, 1, 2], [0, 2, 1]))]
# [[(0, 1), (0, 2), (1, 2)], 0, True, False]
[sizes_of((4,), [2, 0, 2, 3]), can_come((4,), [2, 1, 1]), can_come((4,), [3, 1]), can_come((4,), [1, 1, 1, 1]), can_come((2, 2), [1, 1, 1, 1]), members_for((4,), [2, 1, 1]), members_for((4,), [3, 1])]
# [[2, 1, 1], True, False, False, True, [0, 1, 3], None]
[all_sizes((4,)), all_counts((4,)), all_sizes((3,)), all_counts((3,)), all_counts((2,)), tables_passing((3,), "swap", 1)]
# [[[2, 1, 1], [2, 2], [4]], [1, 2, 6], [[1, 1, 1], [3]], [0, 3], [1], None]
"""

LINEAR = r"""
from checkwright.linear import as_system, coefficient, how_many_by, how_many_weighted, is_linear, is_right_weighted, pairs_by, signs_at, step_of, weighted_sum
from checkwright.weights import are_perfect, can_be_perfect, least_by, perfect_weights, power_system, steps_of_powers, two_weights
ten, isbn = (10, 10, [1, 3, 1, 3], 0), (11, 11, [10, 9, 8, 7, 6, 5, 4, 3, 2, 1], 0)
[is_linear(ten), is_linear((10, 11, [1, 3], 0)), weighted_sum(ten, [4, 0, 0, 2]), is_right_weighted(ten, [4, 0, 0, 2]), as_system((4, 4, [1, 3], 1))]
# [True, False, 0, True, ((4,), [[0, 1, 2, 3], [0, 3, 2, 1]], 1)]
[coefficient(ten, "swap", 0), step_of(ten, "swap", 0), how_many_by(ten, "swap", 0), pairs_by(ten, "swap", 0)[:3], how_many_by(ten, "jump", 0), how_many_by(isbn, "swap", 4)]
# [8, 5, 5, [(0, 5), (1, 6), (2, 7)], 45, 0]
[signs_at(ten, [4, 0, 0, 0], 3), signs_at((10, 10, [2, 5], 0), [0, 0], 0), signs_at((10, 10, [2, 5], 1), [0, 0], 0), how_many_weighted(ten), how_many_weighted((97, 10, [10, 1], 1))]
# [[2], [0, 5], [], 1000, 2]
[can_be_perfect(10, 4, ["swap"]), can_be_perfect(3, 4, ["swap"]), can_be_perfect(3, 2, ["swap", "twin"]), can_be_perfect(5, 9, ["swap", "twin"]), can_be_perfect(7 * 10 ** 28 + 7, 100, ["swap", "jump", "twin", "jumptwin"]), perfect_weights(15, 3, ["swap", "jump"])]
# [False, True, False, True, True, None]
[are_perfect(11, ["swap", "jump"], [10, 9, 8, 7]), are_perfect(11, ["twin"], [6, 5]), least_by(10), least_by(9), steps_of_powers(97, 10), power_system(97, 10, 10, 3, 1)]
# [True, False, 5, 0, (97, 97, 97, 97, 97), (97, 10, [3, 10, 1], 1)]
"""

GROUPS = r"""
from checkwright.dihedral import box_of, dihedral, dihedral_map, first_map, is_antisymmetric, quiet_box
from checkwright.grouped import commutes, group_of, inverse, is_box, is_group, is_quiet_box, is_right_box, joined, passing_swaps, passing_twins, product_of, sign_for
six = dihedral(3)
[six[1], six[3], inverse(six, 1), inverse(six, 4), commutes(six), is_group([[0, 1], [1, 1]]), len(joined(six, group_of((2,))))]
# [[1, 2, 0, 4, 5, 3], [3, 5, 4, 0, 2, 1], 2, 4, False, False, 12]
box = (six, [[0, 1, 2, 3, 4, 5], dihedral_map(3, 1)], 0)
[dihedral_map(3, 1), is_antisymmetric(six, dihedral_map(3, 1)), is_quiet_box(box), passing_swaps(box, 0), passing_twins(box, 0)]
# [[0, 2, 1, 4, 5, 3], True, True, [], [(0, 1), (0, 2), (1, 2), (3, 4), (3, 5), (4, 5)]]
[is_box(box), product_of(box, [1, 3]), sign_for(box, [1, 3], 1), is_right_box(box, [1, 1])]
# [True, 5, 1, True]
[first_map(group_of((3,))), first_map(group_of((4,))), first_map(group_of((2, 2))), box_of(group_of((3,)), [0, 2, 1], 3, 1)[1]]
# [[0, 2, 1], None, [0, 2, 3, 1], [[0, 1, 2], [0, 2, 1], [0, 1, 2]]]
[is_quiet_box(quiet_box(6, 4, 0)), is_quiet_box(quiet_box(8, 3, 5)), len(quiet_box(10, 2, 0)[0])]
# [True, True, 10]
"""

SQUARES = r"""
from checkwright.chains import how_many_right_lists, how_many_slip, is_chain, is_quiet_square, is_right_chain, sign_at, states_of, swaps_of, twins_of
from checkwright.squares import field_square, how_many_swaps, is_square, joined_squares, quiet_square, renamed, weighted
[is_square([[0, 1], [1, 0]]), weighted(3, 2), field_square(2), renamed(weighted(3, 2), [1, 0, 2], [0, 2, 1])]
# [True, [[0, 1, 2], [2, 0, 1], [1, 2, 0]], [[0, 1, 2, 3], [2, 3, 0, 1], [3, 2, 1, 0], [1, 0, 3, 2]], [[2, 0, 1], [1, 2, 0], [0, 1, 2]]]
[swaps_of(weighted(2, 1)), swaps_of(weighted(3, 2)), twins_of(weighted(3, 2))[:3], is_quiet_square(field_square(2)), is_quiet_square(quiet_square(12))]
# [[(0, 0, 1), (1, 0, 1)], [], [(0, 0, 1), (0, 0, 2), (0, 1, 2)], True, True]
[how_many_swaps(weighted(3, 1)), how_many_swaps(joined_squares(weighted(3, 1), weighted(2, 1)))]
# [9, 90]
chain = (weighted(5, 3), 0, 0)
[is_chain(chain), states_of(chain, [1, 2, 4]), is_right_chain(chain, [1, 2, 4]), sign_at(chain, [1, 2, 4], 1), how_many_right_lists(chain, 3)]
# [True, [0, 1, 0, 4], False, 4, 25]
[[how_many_slip((weighted(4, 1), 0, 0), 4, place) for place in [0, 1, 2]], how_many_slip(chain, 5, 2)]
# [[48, 48, 48], 0]
"""

SLIPS = r"""
from checkwright.shares import best_order, fewest_in_order, is_never_worse, share_of, share_unseen, weights_against
from checkwright.slips import caught, counts, first_passing, own_slips, passes, passing, possible, unseen, worst_place
three, ten = ((3,), [[0, 1, 2], [0, 2, 1], [0, 1, 2]], 0), ((10,), [[0, 1, 2, 3, 4, 5, 6, 7, 8, 9], [0, 3, 6, 9, 2, 5, 8, 1, 4, 7], [0, 1, 2, 3, 4, 5, 6, 7, 8, 9]], 0)
[passes(three, ("swap", 0, 1, 2)), passes(three, ("twin", 0, 1, 2)), passes(ten, ("swap", 0, 1, 6)), passes(ten, ("single", 0, 1, 6)), counts(three, "swap"), counts(three, "twin"), counts(three, "jump"), possible(three, "twin")]
# [False, True, True, False, [0, 0], [6, 6], [6], 12]
[passing(three, "jumptwin", 0), counts(ten, "swap"), counts(ten, "twin"), caught(three), caught(ten), worst_place(ten, "jump"), worst_place(three, "swap"), first_passing(ten, "swap")]
# [[], [10, 10], [10, 10], ["single", "swap", "jumptwin"], ["single"], 0, None, ("swap", 0, 0, 5)]
[own_slips(three, [0, 1, 1], "swap"), own_slips(three, [0, 1, 1], "twin"), unseen(three, [0, 1, 1])]
# [[("swap", 0, 0, 1)], [("twin", 1, 1, 0), ("twin", 1, 1, 2)], [("jump", 0, 0, 1), ("twin", 1, 1, 0), ("twin", 1, 1, 2)]]
[share_of(ten, "swap"), share_unseen(ten, (79, 10, 1, 1, 0)), is_never_worse(three, ten), weights_against(three, ten), weights_against(ten, three)]
# [(1, 9), (20, 819), False, "twin", "swap"]
[best_order((3,), [[0, 1, 2], [0, 1, 2], [0, 2, 1]], "swap"), fewest_in_order((3,), [[0, 1, 2], [0, 1, 2], [0, 2, 1]], "swap")]
# [[0, 2, 1], 0]
"""

MENDING = r"""
from checkwright.distances import distance, how_many_at, nearest_right, shift_of, shifts, slips_by
from checkwright.mending import filling_numbered, fillings, how_many_fillings, is_mend, could_be_meant, mends, sure_signs
up, three = [0, 1, 2, 3, 4, 5, 6, 7, 8, 9], [0, 3, 6, 9, 2, 5, 8, 1, 4, 7]
goods, wrong = ((10,), [up, three, up, three], 0), [1, 2, 3, 4]
[how_many_fillings(goods, [1, None, 3, None]), fillings(goods, [1, None, 3, None])[:2], filling_numbered(goods, [1, None, 3, None], 9), fillings(goods, [1, 2, 3, None]), fillings(goods, wrong)]
# [10, [[1, 0, 3, 2], [1, 1, 3, 1]], [1, 9, 3, 3], [[1, 2, 3, 0]], []]
[mends(goods, wrong, "swap"), mends(goods, wrong, "jump"), len(mends(goods, wrong, "single")), is_mend(goods, wrong, (("single", 3, 0, 4), [1, 2, 3, 0]))]
# [[(("swap", 0, 2, 1), [2, 1, 3, 4]), (("swap", 2, 4, 3), [1, 2, 4, 3])], [], 4, True]
[could_be_meant(goods, wrong, ["swap"]), sure_signs(goods, wrong, ["swap"]), sure_signs(goods, wrong, ["jump"]), could_be_meant(goods, [1, 2, 3, 0], ["single", "swap"])]
# [[[1, 2, 4, 3], [2, 1, 3, 4]], [None, None, None, None], None, []]
[distance(goods, wrong, [1, 2, 0, 0]), [how_many_at(goods, wrong, many) for many in [0, 1, 2, 3, 4, 5]], nearest_right(goods, wrong), nearest_right(goods, [1, 2, 3, 0])]
# [2, [0, 4, 48, 292, 656, 0], [[1, 2, 1, 4], [1, 2, 3, 0], [1, 8, 3, 4], [9, 2, 3, 4]], [[1, 2, 3, 0]]]
[shift_of(goods, ("swap", 0, 2, 1)), shift_of(goods, ("swap", 0, 1, 6)), shifts(goods, "single")[:2], shifts(goods, "swap")[:3]]
# [2, 0, [0, 40], [30, 0, 60]]
"""

DOUBLES = r"""
from checkwright.apart import all_points, are_two_ways, by_points, spread_double, two_ways, unseen_swaps
from checkwright.doubles import could_have_been, explained, filled_numbered, how_many_filled, is_double, is_right_double, off_sums, point_of
five, lazy = (5, [(1, 0), (1, 1), (1, 2)], (0, 0)), (5, [(1, 0), (2, 0), (0, 1)], (0, 0))
[is_double(five), is_double((4, [(1, 0), (0, 1)], (0, 0))), is_double((5, [(1, 2), (2, 4)], (0, 0))), point_of(5, (2, 4)), point_of(5, (0, 3))]
# [True, False, False, (1, 2), (0, 1)]
[off_sums(five, [1, 3, 1]), is_right_double(five, [1, 3, 1]), off_sums(five, [1, 3, 2]), explained(five, ["single"], [1, 3, 2]), could_have_been(five, ["single"], [1, 3, 2])]
# [(0, 0), True, (1, 2), [("single", 2, 1, 2)], [[1, 3, 1]]]
[explained(five, ["single", "swap"], [3, 1, 1]), two_ways(five, ["single"]), are_two_ways(lazy, ["single"], ([1, 0, 0], ("single", 0, 0, 1), ("single", 1, 2, 0))), unseen_swaps((3, [(1, 1), (1, 1), (0, 1)], (0, 0)))]
# [[("swap", 0, 1, 3)], None, True, [0]]
[all_points(2, (0, 0)), spread_double(3, 3, (0, 0)), how_many_filled(five, [None, 3, None]), filled_numbered(five, [None, 3, None], 0), how_many_filled(lazy, [None, None, 0]), filled_numbered(lazy, [None, None, 0], 1)]
# [(2, [(0, 1), (1, 0), (1, 1)], (0, 0)), None, 1, [1, 3, 1], 5, [1, 2, 0]]
"""

COUNTING = r"""
from checkwright.counting import fits, how_many_right, is_pattern, issued, last_right, next_right, number_of, right_numbered, sums_of
from checkwright.safe import cost_of_safety, how_many_safe, is_safe, next_safe, safe_numbered
two = ((3,), [[0, 1, 2], [0, 1, 2], [0, 1, 2]], 0)
any_sign, some = [[0, 1, 2]] * 3, [[0, 1], [0, 2], [1, 2]]
[how_many_right(two, any_sign), how_many_right(two, some), sums_of(two, some), is_pattern(two, [[0], [], [2]]), is_pattern(two, [[0], [1, 1], [2]]), fits(two, some, [0, 2, 1])]
# [9, 2, [2, 3, 3], True, False, True]
[right_numbered(two, any_sign, 0), right_numbered(two, any_sign, 8), right_numbered(two, any_sign, 9), number_of(two, any_sign, [1, 1, 1]), number_of(two, any_sign, [2, 2, 0])]
# [[0, 0, 0], [2, 2, 2], None, 4, 8]
[next_right(two, any_sign, [0, 0, 0]), last_right(two, any_sign, [0, 0, 0]), issued(two, some, [0, 0, 0], 5)]
# [[0, 1, 2], None, [[0, 2, 1], [1, 0, 2]]]
[is_safe(two, ["swap"], [0, 0, 0]), is_safe(two, ["swap"], [0, 1, 2]), how_many_safe(two, ["swap"], any_sign), safe_numbered(two, ["swap"], any_sign, 1), next_safe(two, ["swap"], any_sign, [1, 1, 1]), cost_of_safety(two, ["swap"])]
# [True, False, 3, [1, 1, 1], [2, 2, 2], (1, 3)]
"""

OFFICE = r"""
from checkwright.office import LiveOffice, is_deed
three = ((3,), [[0, 1, 2], [0, 2, 1]], 0)
live = LiveOffice(three)
[is_deed(live, ("issue", [[1, 1], [0, 0]])), is_deed(live, ("issue", [[1, 2]])), is_deed(live, ("next", 3)), is_deed(live, ("next", 4)), live.first_free(), live.how_many_free()]
# [True, False, True, False, [0, 0], 3]
live.do(("issue", [[1, 1]]))
live.do(("next", 1))
[live.in_use(), live.state_of([2, 2]), live.state_of([2, 1]), live.first_free(), live.meant([1, 0])]
# [[[1, 1], [0, 0]], "free", "wrong", [2, 2], [([0, 0], ("single", 0, 0, 1)), ([1, 1], ("single", 1, 1, 0))]]
live.do(("strike", [1, 1]))
[live.in_use(), live.struck(), live.state_of([1, 1]), live.clashes(), live.undo(), live.clashes(), live == live.copy()]
# [[[0, 0]], [[1, 1]], "struck", [], None, [([0, 0], ("twin", 0, 0, 1)), ([1, 1], ("twin", 0, 1, 0))], True]
live.do(("next", 1))
live.do(("strike", [2, 2]))
live.do(("strike", [0, 0]))
[live.in_use(), live.struck()]
# [[[1, 1]], [[2, 2], [0, 0]]]
"""

NEVER = r"""
from checkwright.never import afar_system, barely_caught, is_quiet_afar, least_caught, passing_afar
from checkwright.ways import both_quiet, how_many_next, how_many_systems, system_passing
three = ((3,), [[0, 1, 2], [0, 2, 1], [0, 1, 2]], 0)
[least_caught((10,)), least_caught((9,)), least_caught((2,)), least_caught((2, 2)), barely_caught((2,), "swap"), passing_afar(three, 0, 2), passing_afar(three, 0, 1)]
# [16, 15, None, 4, None, [(0, 1), (0, 2), (1, 2)], []]
[is_quiet_afar(three), is_quiet_afar(afar_system(11, 10)), afar_system(3, 3), is_quiet_afar(afar_system(3, 2)), afar_system(2, 2)]
# [False, True, None, True, None]
[both_quiet((3,), 2), both_quiet((10,), 4), both_quiet((9, 2), 2), len(both_quiet((5,), 4)[1]), len(both_quiet((5, 7), 3)[1])]
# [None, None, None, 4, 3]
[how_many_next((3,), [0, 1, 2]), how_many_next((5,), [0, 1, 2, 3, 4]), how_many_next((4,), [0, 1, 2, 3]), how_many_next((3,), [1, 1, 1]), how_many_systems((3,), [("swap", [0, 1, 2]), ("twin", [2, 2, 2])])]
# [3, 15, 0, 1, 3]
[system_passing((4,), ["swap", "twin"], [1, 3]), system_passing((2,), ["swap", "swap"], [1, 0]), len(system_passing((4,), ["swap", "twin"], [2, 6])[1])]
# [None, None, 3]
"""


class Examples(Case):
    def run_lines(self, text):
        """Run all lines in order; a line that a comment follows has to come to what the comment says."""
        known, judged = {}, 0
        lines = text.strip().split("\n") + [""]
        for line, below in zip(lines, lines[1:]):
            if below.startswith("# "):
                with self.subTest(line=line):
                    self.same(eval(line, known), literal_eval(below[2:]))
                judged += 1
            elif line and not line.startswith("# "):
                exec(line, known)
        self.assertEqual(judged, text.count("\n# "))
        self.assertGreater(judged, 2)

    def test_texts(self):
        self.run_lines(TEXTS)

    def test_work(self):
        self.run_lines(WORK)

    def test_rows(self):
        self.run_lines(ROWS)

    def test_wishes(self):
        self.run_lines(WISHES)

    def test_least(self):
        self.run_lines(LEAST)

    def test_linear(self):
        self.run_lines(LINEAR)

    def test_groups(self):
        self.run_lines(GROUPS)

    def test_squares(self):
        self.run_lines(SQUARES)

    def test_slips(self):
        self.run_lines(SLIPS)

    def test_mending(self):
        self.run_lines(MENDING)

    def test_doubles(self):
        self.run_lines(DOUBLES)

    def test_counting(self):
        self.run_lines(COUNTING)

    def test_office(self):
        self.run_lines(OFFICE)

    def test_never(self):
        self.run_lines(NEVER)


if __name__ == "__main__":
    unittest.main()
