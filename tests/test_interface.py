import importlib
import inspect
import unittest

# The functions and classes of each module with the names of their arguments, and for each class its own methods.
FUNCTIONS = {
    "cells": ["check_cell(cell)", "neighbours(cell)", "touching(cell)", "distance(first, second)",
              "cells_within(cell, power)", "moved(cell, east, north)", "cell_text(cell)", "read_cell(text)"],
    "components": ["components(region)", "holes(region)", "filled(region)"],
    "pictures": ["picture(region, box)", "read_picture(text, west, south)"],
    "edges": ["check_edge(edge)", "heading(edge)", "ahead(edge)", "turned_about(edge)", "begin(edge)", "end(edge)",
              "edge_from(corner, heading)", "edge_image(edge, symmetry)"],
    "boundaries": ["is_boundary(ground, edge)", "next_edge(ground, edge)", "previous_edge(ground, edge)",
                   "step_letter(ground, edge)", "boundary(region)", "boundary_length(region)"],
    "contours": ["contours(region)", "contour_through(region, edge)"],
    "turnwords": ["word_of(loop)", "walk_of(edge, word)", "loop_of(edge, word)"],
    "filling": ["total_windings(loops)", "region_of(loops)"],
    "closings": ["closing(last, first)", "closed_stretch(edges, first, last)"],
    "rotation": ["turn_sum(loop)", "euler(region)"],
    "cuts": ["cut_size(basin, cells)", "least_cuts(basin)"],
    "streams": ["full_streams(basin)", "stream_count(basin)"],
    "streamcheck": ["first_fault(basin, streams)", "is_full(basin, streams, cells)"],
    "prices": ["count_in(bank, struck)", "price(bank, struck)", "compare(first, second, struck)"],
    "bestbanks": ["is_allowed(bank, barred)", "best_bank(struck, barred=())"],
    "plainbanks": ["best_banks(struck, barred=())", "plain_best(struck, barred=())"],
    "certificates": ["bank_certificate(struck, barred=())", "judge_bank(struck, barred, certificate)"],
    "landfast": ["landfast(bank)", "islands(bank)"],
    "walks": ["start_edge(number)", "ahead_edges(ground, edge, many)", "landing_steps(ground, edge)"],
    "watches": ["struck_ahead(runner, many)", "trail_stands(runner)", "growth_gap(runner, early, late, cells)"],
    "stretches": ["walk_part(runner, first, last)", "visits(runner, cell, last)", "enclosed(runner, cell, last)"],
    "runnertexts": ["runner_text(runner)", "read_runner(text)"],
    "patterns": ["patterns(level)", "holds(level, columns)", "lacking(level, columns)"],
    "walls": ["is_inside(half, cell)", "is_outer(half, cell)", "wall_cell(half, wall, column)",
              "level_of(half, wall, cell)", "column_of(half, wall, cell)", "wall_cells(half)", "corner_cells(half)",
              "struck_columns(half, wall, cell, struck)"],
    "pens": ["is_held(half, cell, struck)", "lacking_cells(half, cell, struck)"],
    "strikejudge": ["judge_strikes(half, prepared, cells, strikes)"],
    "strolls": ["stroll(breaker, wishes, most)"],
    "trials": ["try_deeds(game, deeds)"],
    "records": ["record_text(game)", "read_record(text)"],
    "ranks": ["ranks(board, ways_out, power)", "rank(board, ways_out, power, start)"],
    "plans": ["breaker_plan(board, ways_out, power, start)", "runner_plan(board, ways_out, power, start)",
              "judge_breaker(board, ways_out, power, start, plan)",
              "judge_runner(board, ways_out, power, start, plan)"],
    "boardplay": ["play_breaker(board, ways_out, power, start, choices)",
                  "play_runner(board, ways_out, power, start, choices)"],
    "images": ["game_image(game, symmetry)", "runner_image(runner, symmetry)"],
    "studies": ["merged(first, second)"],
    "studytexts": ["study_text(study)", "read_study(text)"],
    "hunts": ["wished_strike(runner, wish)", "hunt(runner, wishes)"],
    "matches": ["pen_match(breaker)"],
    "journals": ["journal(runner)", "first_bad_turn(entries, code=0)"],
    "certtexts": ["certificate_text(certificate)", "read_certificate(text)"],
    "journaltexts": ["journal_text(entries, code=0)", "read_journal(text)"],
    "views": ["view(runner, box)", "read_view(text, west, south)"],
    "penviews": ["pen_view(breaker)", "read_pen_view(text)"],
    "reports": ["report(runner)", "totals(runner)"],
}
CLASSES = {
    ("symmetries", "Symmetry(code)"): ["named(name)", "__call__(cell)", "__mul__(other)", "__invert__()",
                                       "__eq__(other)"],
    ("boxes", "Box(west, south, east, north)"): ["around(cells)", "__contains__(cell)", "__and__(other)",
                                                 "__or__(other)", "__eq__(other)", "inside(other)", "grown(by)",
                                                 "all_cells()"],
    ("regions", "Region(cells=())"): ["__len__()", "__contains__(cell)", "__iter__()", "__or__(other)",
                                      "__and__(other)", "__sub__(other)", "__xor__(other)", "__ior__(other)",
                                      "__isub__(other)", "__eq__(other)", "inside(other)", "shifted(east, north)",
                                      "image(symmetry)"],
    ("loops", "Loop(edges=())"): ["__len__()", "__iter__()", "__eq__(other)", "winding(cell)", "windings()",
                                  "__neg__()", "__add__(other)", "image(symmetry)", "begun_at(at)"],
    ("basins", "Basin(struck, barred=())"): ["rows()", "is_open(cell)", "is_exit(cell, other)", "open_cells()",
                                             "mirrored()"],
    ("rests", "Rest(basin, streams)"): ["may_step(cell, other)", "reached(cells)", "leaks(cell)"],
    ("banks", "Bank(extra=())"): ["__contains__(cell)", "__or__(other)", "__and__(other)", "__eq__(other)",
                                  "inside(other)", "cut_off(box)", "shifted(north)", "mirrored()"],
    ("certificates", "BankCertificate(extra, streams, grounds, excuses)"): [],
    ("runners", "BankRunner(code=0)"): ["played(strikes, code=0)", "strike(cell)", "undo()", "copy()", "to_own(cell)",
                                        "to_board(cell)", "bank_at(turn)", "barred_at(turn)", "struck_by(turn)",
                                        "trail()", "edges_ahead(many)", "certificate_at(turn)"],
    ("breakers", "PenBreaker(half=65, start=(0, 0), *, prepared=False)"): ["strike()", "move(cell)", "is_struck(cell)",
                                                                           "undo()", "copy()"],
    ("games", "Game(power, start=(0, 0), *, board=None, ways_out=(), before=())"): [
        "strike(cell)", "move(cell)", "do(deed)", "is_struck(cell)", "landings()", "undo()", "copy()"],
    ("trials", "Trial(game)"): ["__enter__()", "__exit__(kind, value, trace)"],
    ("studies", "Study(game)"): ["__len__()", "__eq__(other)", "nodes()", "parent(node)", "children(node)",
                                 "depth(node)", "deeds_at(node)", "game_at(node)", "add(node, deed)", "prune(node)",
                                 "alike()", "lines()"],
    ("matches", "Match(code=0, power=2)"): ["played(strikes, code=0, power=2)", "strike(cell)", "undo()", "copy()"],
    ("journals", "Entry(hit, landing, certificate)"): [],
    ("views", "View(cell, struck, bank, visited)"): ["__eq__(other)"],
}
PROPERTIES = {("symmetries", "Symmetry"): ["mirrors"], ("boxes", "Box"): ["width", "height", "area"],
              ("regions", "Region"): ["box"], ("loops", "Loop"): ["area"], ("basins", "Basin"): ["sources", "box"],
              ("rests", "Rest"): ["fed", "full"], ("banks", "Bank"): ["growth"],
              ("runners", "BankRunner"): ["turn", "marks"], ("breakers", "PenBreaker"): ["reasons"],
              ("games", "Game"): ["board", "turn", "deeds"],
              ("matches", "Match"): ["runner", "game", "turn"]}
CLASS_METHODS = {("symmetries", "Symmetry"): ["named"], ("boxes", "Box"): ["around"],
                 ("runners", "BankRunner"): ["played"], ("matches", "Match"): ["played"]}


def module_of(name):
    return importlib.import_module("neverpenned." + name)


class InterfaceTest(unittest.TestCase):
    def test_functions_stand_in_their_modules_with_their_arguments(self):
        for name in FUNCTIONS:
            for told in FUNCTIONS[name]:
                function = getattr(module_of(name), told.partition("(")[0])
                self.assertTrue(inspect.isfunction(function), told)
                self.assertEqual(function.__module__, "neverpenned." + name)
                self.assertEqual(function.__name__ + str(inspect.signature(function)), told)

    def test_classes_stand_in_their_modules_with_their_arguments(self):
        for name, told in CLASSES:
            kind = getattr(module_of(name), told.partition("(")[0])
            self.assertTrue(inspect.isclass(kind), told)
            self.assertEqual(kind.__module__, "neverpenned." + name)
            self.assertEqual(kind.__name__ + str(inspect.signature(kind)), told)

    def test_methods_stand_in_their_own_class(self):
        for name, told in CLASSES:
            kind = getattr(module_of(name), told.partition("(")[0])
            for method in CLASSES[name, told]:
                found = vars(kind)[method.partition("(")[0]]
                function = found.__func__ if isinstance(found, classmethod) else found
                first, *rest = inspect.signature(function).parameters.values()
                self.assertEqual(f"{function.__name__}({', '.join(map(str, rest))})", method)

    def test_properties_and_class_methods(self):
        for name, kind in PROPERTIES:
            for told in PROPERTIES[name, kind]:
                self.assertIsInstance(vars(getattr(module_of(name), kind))[told], property)
        for name, kind in CLASS_METHODS:
            for told in CLASS_METHODS[name, kind]:
                self.assertIsInstance(vars(getattr(module_of(name), kind))[told], classmethod)


if __name__ == "__main__":
    unittest.main()
