"""Section 25 of the document: what stands in which file, and by which names it is called."""

import ast
import importlib
import inspect
import os
import unittest

from gathermill import errors

FOLDER = os.path.dirname(os.path.abspath(errors.__file__))
INTERFACE = {
    "values": "is_number(thing), is_word(thing), is_name(thing), is_constant(thing), is_reference(thing), is_value(thing), "
              "is_object(thing), kind_of(value), words_of(item), showing(value, item, names), one_result(op, value), "
              "two_result(op, one, other)",
    "signs": "signs_of(text)",
    "reader": "tree_of(text)",
    "trees": "is_expression(thing), is_statement(thing), is_tree(thing), within(part), parts_of(tree), size_of(tree), "
             "levels_of(tree), tree_text(tree)",
    "names": "plan_of(tree), variables(tree), captured(tree), uses(tree), alike(tree, other), renamed(tree, names)",
    "meaning": "meaning_of(tree, most), steps_of(tree, most)",
    "codes": "is_instruction(thing), is_code(thing), is_program(thing), effect_of(instruction), "
             "next_places(instruction, place), codes_named(code), instruction_text(instruction), program_text(program), "
             "program_read(text)",
    "compiler": "compiled(tree), compiled_text(text), begins(tree)",
    "checker": "table_of(program), is_taken(program), is_table(program, thing), bar(program), is_bar(program, thing), "
               "sheet_along(program, code, path), tallest(program), holds(program, table, state)",
    "trimming": "trims(program), is_trim(program, thing), trimmed_by(program, trim), trimmed(program)",
    "machine": "begun(program), stepped(program, state, limits), run_plain(program, limits, most), "
               "states_along(program, limits, most), live(state), live_words(state), canon(state)",
    "memory": "is_memory(thing), memory_begun(room, nursery), used_words(memory), part_of(memory, address), "
              "objects_in(memory), head_of(memory, address), object_at(memory, address), read(memory, address, number), "
              "written(memory, address, number, value), placed(memory, item)",
    "minor": "minor(memory, roots), minor_moves(memory, roots)",
    "major": "flipped(memory, roots), collected(memory, roots), whole(memory, roots), fetched(memory, address, number), "
             "steps_to_end(memory)",
    "mill": "mill_begun(program, limits), mill_stepped(program, mill, limits, steps), "
            "run_mill(program, limits, schedule, most), mills_along(program, limits, schedule, most), roots_of(frames), "
            "with_roots(frames, roots), is_mill(thing)",
    "sights": "sight(mill), same_sight(mill, other), parting(mill, other), is_parting(mill, other, thing), seen_at(mill), "
              "unseen(mill)",
    "rooms": "needs(program, deep, most), least_room(program, deep, most), peak(program, deep, most), "
             "first_refused(program, room, deep, most), lacks_at(program, deep, most), floating(mill), live_in(mill), "
             "gathered(mill), floating_along(program, limits, schedule, most)",
    "images": "image_of(mill), mill_read(text)",
    "judge": "is_claim(thing), is_so(claim), paper(claim), is_paper_for(claim, thing), is_paper_against(claim, thing), "
             "verdicts(claims, things), comes_of(claim, claims), first_false(claims)",
    "desk": "desk(text), is_request(thing)",
    "holds": "has_form(thing), breaches(mill), is_sound(mill), reached(mill), reached_words(mill), is_tight(mill)",
}


class InterfaceTest(unittest.TestCase):
    def test_functions(self):
        for name, listed in INTERFACE.items():
            module = importlib.import_module("gathermill." + name)
            with open(os.path.join(FOLDER, name + ".py"), encoding="ascii") as source:
                defined = {own.name for own in ast.parse(source.read()).body if isinstance(own, ast.FunctionDef)}
            for row in listed.replace("), ", ")\n").split("\n"):
                own, _, arguments = row.rstrip(")").partition("(")
                self.assertIn(own, defined, name)
                self.assertEqual(list(inspect.signature(getattr(module, own)).parameters), arguments.split(", "), row)


if __name__ == "__main__":
    unittest.main()
