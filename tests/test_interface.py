"""The interface [24]: names, parameters, and the file in which each function is defined."""

import importlib
import inspect
import unittest

INTERFACE = {
    "words": (
        "is_word(thing)", "word_power(word, many)", "root_of(word)", "commute(word, other)", "common_root(words)",
        "turned(word, many)", "piece_of(row, start, many)", "is_piece(row, start, word)", "first_apart(word, other)",
        "row_word(words, row)", "row_told(words, word)"),
    "terms": (
        "is_term(thing)", "depth(term)", "calls_in(term)", "words_in(term)", "makers_in(term)",
        "parts_in_order(term)", "led(term, word)", "filled(term, answers)"),
    "programs": (
        "is_program(thing)", "checked(rules)", "leaves_of(rule)", "tests_of(rule)", "way_to(rule, number)",
        "leaf_by(rule, held)", "called(program, name)", "reached(program)", "reached_part(program)",
        "components(program)", "component_of(program, name)", "own_calls(program, name)", "kind_of(program, name)",
        "is_plain(program, name)", "still_order(program)", "renamed(program, names)"),
    "rows": (
        "walk_word(walk)", "is_closed_walk(program, name, thing)", "rows_of(program, name)",
        "is_rows(program, thing)", "fork_of(program, name)", "is_fork(program, thing)", "stride(program, name)",
        "barred(program)", "can_loop(program)"),
    "meanings": (
        "is_meaning(thing)", "is_value(thing)", "is_for(meaning, program)", "led_thing(meaning, start, word)",
        "leaf_at(program, meaning, name, start)", "asks_at(program, meaning, name, start)",
        "asks_from(program, meaning, name, start)", "ring_from(program, meaning, name, start)",
        "is_ring(program, meaning, name, start, thing)", "answer(program, meaning, name, start)",
        "answer_parts(program, meaning, name, start)", "parted_things(program, other, meaning)"),
    "webs": (
        "web_of(program, meaning, name, start)", "asks_unlike(program, meaning, name, start)",
        "asks_done(program, meaning, name, start)", "web_depth(program, meaning, name, start)",
        "web_order(program, meaning, name, start)", "is_web_order(program, meaning, name, start, thing)",
        "is_web_tree(program, meaning, name, start)", "two_ways(program, meaning, name, start)",
        "is_two_ways(program, meaning, name, start, thing)"),
    "pebbles": (
        "is_shape(thing)", "shape_of(term)", "web_cells(shape)", "web_play(shape)", "is_play(shape, many, thing)",
        "fewest_puts(shape, many)", "sparing_cells(shape)", "sparing_play(shape)", "is_sparing(shape, many, thing)",
        "closed_sets(shape, many)", "is_closed(shape, many, thing)", "is_tree(shape, depth, thing)"),
    "loops": (
        "is_loops(thing)", "stands_of(loops, meaning, start, many)", "end_of(loops, meaning, start)",
        "run(loops, meaning, start)", "work(loops, meaning, start)", "may_fault(loops)", "tidied(loops)"),
    "paths": (
        "along_path(program)", "chain(program, meaning, name, start)", "chain_word(program, meaning, name, start)",
        "is_chain(program, meaning, thing)", "chain_lengths(program, meaning, name)", "path_loops(program)"),
    "sweeps": (
        "reach(program, name)", "first_marks(program, name)", "asked_with(program, name, marks, taken)",
        "next_marks(program, name, marks, taken)", "marks_row(program, name, row)", "marks_that_come(program, name)",
        "most_marked(program, name)", "way_to_marks(program, name, marks)",
        "is_way_to_marks(program, name, marks, thing)", "history_along(program, meaning, name, start, many)",
        "sweep(program, meaning, name, start)", "places_asked(program, meaning, name, start)",
        "last_place(program, meaning, name, start)"),
    "rowloops": (
        "along_row(program)", "row_reach(program)", "row_span(program)", "row_loops(program)", "row_cells(program)",
        "row_flags(program)"),
    "nests": (
        "nest_of(program)", "nest_depth(program)", "loops_of(program)", "slips(program, loops, meaning)",
        "is_slip(program, loops, thing)"),
    "trees": (
        "ends_by(program)", "free_words(program, turns)", "free_meaning(program, turns)",
        "answer_shape(program, meaning, start)", "tree_paper(program, depth)", "is_tree_paper(program, depth, thing)",
        "fails(program, loops, turns)"),
    "growth": (
        "lot_of(program, word)", "calls_within(program, n)", "ways_within(program, n)", "power_of(program)",
        "ring_row(program)", "is_ring_row(program, thing)", "two_rings(program)", "are_two_rings(program, thing)"),
    "alike": (
        "is_marked(program)", "as_met(program)", "put_in(program)", "pairs_of(one, other)",
        "is_pairs(one, other, thing)", "are_alike(one, other)", "split_of(one, other)", "is_split(one, other, thing)",
        "parting(one, other)", "is_parting(one, other, thing)"),
    "tails": (
        "bare_calls(program)", "bare_names(program)", "waits(program, meaning, name, start)",
        "led_on(program, meaning, name, start)", "most_waits(program)", "waiting_meaning(program, many)",
        "is_waiting(program, many, thing)", "bare_loops(program)"),
    "walks": (
        "combed(one, maker)", "alike_by(one, other, maker)", "is_spine(program)", "sides(program)",
        "is_sides(program, thing)", "walk_bar(program)", "is_walk_bar(program, thing)", "walk_loops(program)"),
    "texts": (
        "term_text(term)", "value_text(value)", "program_text(program)", "loops_text(loops)", "meaning_text(meaning)",
        "term_read(word)", "program_read(text)", "loops_read(text)", "meaning_read(text)"),
    "judge": (
        "is_claim(thing)", "is_so(claim)", "paper(claim)", "is_paper_for(claim, thing)",
        "is_paper_against(claim, thing)", "verdicts(claims, things)", "comes_of(claim, claims)",
        "first_false(claims)"),
    "desk": (
        "desk(text)", "is_request(thing)"),
}
MANY = {
    "words": 11, "terms": 8, "programs": 16, "rows": 9, "meanings": 12, "webs": 9, "pebbles": 12, "loops": 7, "paths": 6,
    "sweeps": 13, "rowloops": 6, "nests": 5, "trees": 7, "growth": 8, "alike": 10, "tails": 8, "walks": 8,
    "texts": 9, "judge": 8, "desk": 2}


class InterfaceTest(unittest.TestCase):

    def test_names_and_parameters(self):
        for module, functions in INTERFACE.items():
            of_module = importlib.import_module("unwound." + module)
            self.assertEqual(len(functions), MANY[module])
            for written in functions:
                function = getattr(of_module, written.partition("(")[0])
                self.assertEqual(function.__name__ + str(inspect.signature(function)), written)

    def test_defined_under_their_headings(self):
        for module, functions in INTERFACE.items():
            of_module = importlib.import_module("unwound." + module)
            for written in functions:
                function = getattr(of_module, written.partition("(")[0])
                self.assertTrue(inspect.isfunction(function))
                self.assertEqual(function.__module__, "unwound." + module)


if __name__ == "__main__":
    unittest.main()
