"""[1]: each name stands in its module, defined there, with the arguments as they are written."""

import importlib
import inspect
import unittest
from pathlib import Path

from checkwright.office import LiveOffice

INTERFACE = {
    "groups": """are_orders(value) is_member(orders,value) size(orders) figures(orders,member) member_of(orders,told)
        added(orders,member,other) opposite(orders,member) total_of(orders,row) order_of(orders,member)
        same_group(orders,other)""",
    "systems": """is_table(orders,value) is_row(orders,value) is_system(value) is_code(system,value)
        is_slip(system,value) sum_of(system,code) is_right(system,code) plain_system(orders,places)
        can_befall(system,code,slip) slipped(system,code,slip)""",
    "texts": """is_alphabet(number,value) text_of_code(system,alphabet,code) code_of_text(system,alphabet,text)
        text_of_system(system,alphabet) system_of_text(alphabet,text)""",
    "checking": """off_by(system,code) sign_wanted(system,code,place) set_right(system,code,place)
        how_many_codes(system) with_signs(system,names) reordered(system,places) added_to(system,place,member)
        fixed_at(system,place,sign) put_together(system,other)""",
    "alike": """are_alike(system,other) parting(system,other) ways_same(orders) least_alike(system)
        how_many_alike(system)""",
    "rows": """differences(orders,first,second) sums(orders,first,second) row_can_come(orders,row)
        tables_of(orders,row) are_tables_of(orders,row,value) next_table(orders,table,row)
        is_next(orders,table,row,value) next_by_sums(orders,table,row) is_next_by_sums(orders,table,row,value)
        by_signs(orders,table,row)""",
    "walks": """changed(orders,first,second,old,last,new) is_changed(orders,first,second,old,last,new,value)
        rounds(orders,row) are_rounds(orders,row,value)""",
    "wishes": """is_wish(orders,value) keeps(system,place,wish) keeps_all(system,wishes)
        first_uneven(orders,wishes) system_for(orders,first,wishes,total) extended(system,wish)
        rewished(system,place,wish)""",
    "quiet": """passing_counts(system) is_quiet(system) quietest(orders,kinds) quiet_system(orders,places)
        quiet_orders(number)""",
    "least": """halves(orders) sum_of_all(orders) least_passing(orders) best_tables(orders,kind)
        is_best(orders,kind,value) passing_pairs(orders,kind,first,second)
        how_many_pass(orders,kind,first,second)""",
    "classes": """sizes_of(orders,row) can_come(orders,sizes) members_for(orders,sizes)
        tables_with(orders,kind,sizes) is_with(orders,kind,sizes,value) all_sizes(orders) all_counts(orders)
        tables_passing(orders,kind,number)""",
    "linear": """is_linear(value) weighted_sum(linear,code) is_right_weighted(linear,code) as_system(linear)
        coefficient(linear,kind,place) step_of(linear,kind,place) how_many_by(linear,kind,place)
        pairs_by(linear,kind,place) signs_at(linear,code,place) how_many_weighted(linear)""",
    "weights": """are_perfect(modulus,kinds,value) can_be_perfect(modulus,places,kinds)
        perfect_weights(modulus,places,kinds) least_by(modulus) two_weights(modulus)
        power_system(modulus,signs,ratio,places,total) steps_of_powers(modulus,ratio)""",
    "grouped": """is_group(value) group_of(orders) joined(group,other) inverse(group,member) commutes(group)
        is_box(value) product_of(box,code) is_right_box(box,code) sign_for(box,code,place)
        passing_swaps(box,place) passing_twins(box,place) is_quiet_box(box)""",
    "dihedral": """dihedral(turns) dihedral_map(turns,shift) is_antisymmetric(group,value) first_map(group)
        box_of(group,table,places,total) quiet_box(size,places,total)""",
    "squares": """is_square(value) weighted(size,weight) field_square(bits) renamed(square,states,signs)
        joined_squares(square,other) how_many_swaps(square) quiet_square(size)""",
    "chains": """is_chain(value) states_of(chain,code) is_right_chain(chain,code) sign_at(chain,code,place)
        swaps_of(square) twins_of(square) is_quiet_square(square) how_many_slip(chain,length,place)
        how_many_right_lists(chain,length)""",
    "slips": """passes(system,slip) passing(system,kind,place) counts(system,kind) possible(system,kind)
        caught(system) worst_place(system,kind) first_passing(system,kind) own_slips(system,code,kind)
        unseen(system,code)""",
    "shares": """share_of(system,kind) share_unseen(system,weights) is_never_worse(system,other)
        weights_against(system,other) best_order(orders,tables,kind) fewest_in_order(orders,tables,kind)""",
    "mending": """how_many_fillings(system,gaps) fillings(system,gaps)
        filling_numbered(system,gaps,number) mends(system,code,kind) is_mend(system,code,value)
        could_be_meant(system,code,kinds) sure_signs(system,code,kinds)""",
    "distances": """distance(system,code,other) how_many_at(system,code,many) nearest_right(system,code)
        shift_of(system,slip) shifts(system,kind) slips_by(system,kind,member)""",
    "doubles": """is_double(value) off_sums(double,code) is_right_double(double,code)
        point_of(prime,column) explained(double,kinds,code) could_have_been(double,kinds,code)
        how_many_filled(double,gaps) filled_numbered(double,gaps,number)""",
    "apart": """two_ways(double,kinds) are_two_ways(double,kinds,value) unseen_swaps(double)
        by_points(prime,points,totals) all_points(prime,totals) spread_double(prime,places,totals)""",
    "counting": """is_pattern(system,value) fits(system,pattern,code) sums_of(system,pattern)
        how_many_right(system,pattern) right_numbered(system,pattern,number)
        number_of(system,pattern,code) next_right(system,pattern,code) last_right(system,pattern,code)
        issued(system,pattern,code,many)""",
    "safe": """is_safe(system,kinds,code) how_many_safe(system,kinds,pattern)
        safe_numbered(system,kinds,pattern,number) next_safe(system,kinds,pattern,code)
        cost_of_safety(system,kinds)""",
    "office": """is_deed(live,value)""",
    "never": """least_caught(orders) barely_caught(orders,kind) passing_afar(system,place,other)
        is_quiet_afar(system) afar_system(prime,places)""",
    "ways": """both_quiet(orders,places) how_many_next(orders,row) how_many_systems(orders,wishes)
        system_passing(orders,kinds,numbers)""",
}

LIVE_OFFICE = """system() do(deed) undo() redo() log() copy() in_use() struck() how_many_free() first_free()
    state_of(code) meant(code) clashes()"""


class Interface(unittest.TestCase):
    def test_functions(self):
        for name, told in INTERFACE.items():
            module = importlib.import_module("checkwright." + name)
            for written in told.split():
                with self.subTest(module=name, function=written):
                    word, arguments = written[:-1].split("(")
                    function = getattr(module, word)
                    self.assertTrue(inspect.isfunction(function))
                    self.assertEqual(function.__module__, module.__name__)
                    parameters = inspect.signature(function).parameters.values()
                    self.assertEqual([one.name for one in parameters], arguments.split(","))
                    for one in parameters:
                        self.assertIs(one.kind, inspect.Parameter.POSITIONAL_OR_KEYWORD)

    def test_live_office(self):
        self.assertEqual(LiveOffice.__module__, "checkwright.office")
        self.assertEqual(list(inspect.signature(LiveOffice).parameters), ["system"])
        for written in LIVE_OFFICE.split():
            with self.subTest(method=written):
                word, arguments = written[:-1].split("(")
                # In the class itself, not only in a base class.
                method = vars(LiveOffice)[word]
                self.assertTrue(inspect.isfunction(method))
                parameters = inspect.signature(method).parameters.values()
                self.assertEqual([one.name for one in parameters], ["self", *filter(None, arguments.split(","))])
                for one in parameters:
                    self.assertIs(one.kind, inspect.Parameter.POSITIONAL_OR_KEYWORD)

    def test_nothing_is_left_out(self):
        folder = Path(importlib.import_module("checkwright").__file__).parent
        modules = {path.stem for path in folder.iterdir()} - {"__init__", "__pycache__", "plain", "errors"}
        self.assertEqual(modules, set(INTERFACE))


if __name__ == "__main__":
    unittest.main()
