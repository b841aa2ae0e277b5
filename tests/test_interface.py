"""The interface: each name stands in its file, with its parameters; promise [0.1]."""

import importlib
import inspect
import unittest

FUNCTIONS = {
    "rows": {"is_operand": "value", "is_row": "value", "reckoned": "op one other", "operands_of": "row",
             "set_by": "row"},
    "states": {"is_state": "program value", "first_state": "program", "next_state": "program inputs state",
               "cell_in": "program state cell"},
    "stretches": {"beginnings": "program procedure", "stretches": "program", "stretch_of": "program spot",
                  "is_term": "value", "terms_at": "program stretch label", "worth": "term values"},
    "made": {"places": "program procedure", "is_made": "program value", "plain_made": "program stretch",
             "place_terms": "program made stop", "is_right": "program made", "shown_in": "program made stop variable",
             "table_at": "program made stop", "told_beside": "program made stop",
             "shown_paper": "program made stop variable", "accepts_shown": "program made paper"},
    "maderuns": {"made_moments": "code run", "plain_moment": "code run here", "places_at": "code run here",
                 "told_at": "code run here variable", "moments_of": "code run t", "step_on": "code run here",
                 "step_back": "code run here"},
    "tapes": {"comers": "program spot", "keeps_old": "row", "value_ahead": "row other value", "told_need": "row",
              "shows_need": "row value", "keep_of": "run t", "tape_of": "run",
              "undone": "program inputs state keep", "played_back": "program inputs changes state tape",
              "is_tape": "run value"},
    "keptstates": {"reach_on": "last moments", "reach_both": "last moments", "least_on": "last many",
                   "least_both": "last many", "even_on": "last many", "even_both": "last many"},
    "causes": {"reads_of": "run step", "writes_of": "run step", "last_write": "run t cell", "causes_of": "run t cell",
               "askings_of": "run t cell", "effects_of": "run step", "redone": "run steps t cell",
               "is_enough": "run t cell value", "is_closed_lot": "run t cell value",
               "agree_about": "run other t cell", "causes_paper": "run t cell", "shows_causes": "run t cell value"},
    "seeking": {"is_condition": "program value", "cells_in": "condition", "holds_at": "run t condition",
                "spells_of": "run condition", "first_moment": "run t condition", "next_moment": "run t condition",
                "last_moment": "run t condition", "soonest_moments": "run t conditions",
                "follows_at": "run t conditions value"},
    "branches": {"branch_of": "run changes", "main_of": "run", "idle_changes": "run", "lean_changes": "run",
                 "unlike_cells": "one other t", "joined_at": "one other"},
    "alive": {"live_at": "program spot", "live_beneath": "program spot", "live_paper": "program spot variable",
              "judge_live": "program spot variable paper", "alike_key": "program inputs state",
              "are_alike": "one t other u", "first_meeting": "one other", "first_unlike": "one other",
              "healed_at": "run", "awaited_cells": "run t"},
    "putting": {"sites_at": "program made stop variable", "table_behind": "program made stop variable put",
                "is_closed_put": "program made stop variable put", "is_good_put": "program made stop variable put",
                "first_wrong": "program made stop variable put", "closed_puts": "program made stop variable",
                "good_puts": "program made stop variable", "put_paper": "program made stop variable",
                "accepts_put": "program made paper",
                "homes_behind": "program made stop variable put value values",
                "plain_behind": "program made stop variable value values",
                "change_at": "run made begin stop variable value"},
    "landings": {"landings": "run edit", "landed": "run edit t", "led_on": "run edit t", "goal": "run edit t gone=()",
                 "next_landing": "run edit t", "gone_behind": "run edit t gone=()", "spoilt": "run edit t",
                 "landing_paper": "run edit t", "accepts_landing": "run edit paper", "maps_for": "run program t"},
    "counters": {"reached_rows": "program procedure", "arcs_of": "program procedure",
                 "counts_at": "run t procedure", "standing_at": "run t procedure",
                 "does_tell": "program procedure arcs", "tell_paper": "program procedure arcs",
                 "accepts_tell": "program procedure arcs value", "cheapest_counters": "program procedure prices=None",
                 "counts_by": "program procedure standing counted"},
    "allcounters": {"called_names": "program", "all_arcs": "program", "do_tell_all": "program arcs",
                    "free_paper": "program arcs", "accepts_free": "program arcs value",
                    "fewest_for_all": "program"},
    "pauses": {"come_spots": "program", "bound_of": "program looks", "longest_way": "program looks",
               "is_way": "program looks value", "pause_at": "run looks t",
               "least_looks": "program looks menu most"},
    "roads": {"idle_legs": "road", "first_parting": "one other", "last_parting": "one other"},
    "hands": {"home_place": "", "is_place": "setting value", "is_command": "setting value",
              "seen_at": "setting place", "place_behind": "setting place command", "can_do": "setting place command",
              "places_behind": "setting place commands", "see_alike": "setting one other"},
    "allroads": {"is_still": "run value", "journey_moments": "run journey", "journey_changes": "run journey",
                 "step_cost": "run kept now t *back=False", "visits_cost": "run kept visits *back=False",
                 "best_kept": "run visits many *back=False", "sight_at": "run t menu", "moments_like": "run t menu",
                 "tells": "run t menu", "least_menus": "run t menu", "sight_paper": "run t menu",
                 "accepts_sight": "run value"},
    "madelandings": {"begins": "run made", "needs_at": "edit made stop", "hinders_at": "edit made stop",
                     "suits": "edit made stop", "made_goal": "run edit made begin stop",
                     "landing_stops": "run edit made begin", "made_shown": "run edit made begin stop",
                     "made_paper": "run edit made begin stop", "accepts_made": "run edit made paper"},
    "apart": {"plain_run": "run", "reach_of": "run", "keeps_rows": "run", "conflicts_of": "one other",
              "are_apart": "one other", "joined_run": "one other", "put_together": "one other moment"},
    "leastchanges": {"run_of": "program inputs menu lot", "least_sets": "program inputs menu wish",
                     "is_least": "program inputs menu wish value", "apart_groups": "program inputs menu",
                     "is_wish": "program value", "does_hold": "run wish", "blame_of": "run index",
                     "whole_blame": "run index"},
    "live": {"shortest_to": "setting place"},
    "texts": {"write_condition": "condition", "write_command": "command", "write_program": "program",
              "write_setting": "setting", "write_live": "live", "read_condition": "text", "read_command": "text",
              "read_program": "text", "read_setting": "text", "read_live": "text"},
}

CLASSES = {
    "programs": {"Program": {"__init__": "procedures", "__eq__": "other", "names": "", "procedure": "name",
                             "variables_of": "name", "row": "spot", "spots": "", "nexts": "spot",
                             "has_spot": "value"}},
    "runs": {"Run": {"__init__": "program inputs=() changes=()", "__eq__": "other", "__len__": "", "program": "",
                     "inputs": "", "changes": "", "last": "", "state": "t", "ahead": "t", "spot_at": "t",
                     "outputs": "", "result": "", "cell_at": "t cell"}},
    "maderuns": {"Made": {"__init__": "program mades=()", "__eq__": "other", "program": "", "made_of": "stretch",
                          "listed": ""}},
    "keptstates": {"Kept": {"__init__": "run moments", "__eq__": "other", "moments": "", "road_to": "t",
                            "come_to": "t"}},
    "edits": {"Edit": {"__init__": "program other pairs", "__eq__": "other", "old": "", "new": "", "pairs": "",
                       "to": "spot", "is_same": "", "then": "edit"}},
    "roads": {"Setting": {"__init__": "program inputs=() *stretches=() *edits=()", "__eq__": "other", "program": "",
                          "inputs": "", "edits": "", "code": "", "main_run": ""},
              "Road": {"__init__": "setting legs=()", "__eq__": "other", "setting": "", "legs": "", "run": "",
                       "floor": "", "gone_at": "t", "view": "t", "ahead": ""}},
    "live": {"Live": {"__init__": "setting *many=1", "__eq__": "other", "__len__": "", "setting": "",
                      "do": "hand command", "undo": "hand", "redo": "hand", "place": "hand", "sees": "hand",
                      "line": "hand", "hands_with": "hand", "back": "", "again": "", "trial": "",
                      "trying": "guest *kept=False", "twin": ""}},
    "console": {"Console": {"__init__": "", "run": "line"}},
}


class Interface(unittest.TestCase):
    def test_functions(self):
        for file, functions in FUNCTIONS.items():
            module = importlib.import_module(f"plainmoment.{file}")
            for name, told in functions.items():
                function = getattr(module, name)
                self.assertEqual(function.__module__, module.__name__, name)
                self.assertEqual(" ".join(self.parameters_of(function)), told, name)

    def test_classes(self):
        for file, classes in CLASSES.items():
            module = importlib.import_module(f"plainmoment.{file}")
            for kind, methods in classes.items():
                self.assertEqual(getattr(module, kind).__module__, module.__name__, kind)
                for name, told in methods.items():
                    method = vars(getattr(module, kind))[name]
                    self.assertEqual(" ".join(self.parameters_of(method)[1:]), told, f"{kind}.{name}")

    def test_static_methods(self):
        edits = importlib.import_module("plainmoment.edits")
        self.assertIsInstance(vars(edits.Edit)["same"], staticmethod)
        self.assertEqual(self.parameters_of(edits.Edit.same), ["program"])

    def test_properties(self):
        live = importlib.import_module("plainmoment.live")
        self.assertIsInstance(vars(live.Live)["many"], property)

    def parameters_of(self, function):
        """The names of the parameters, a star ahead of what is given by name alone, a default behind its sign."""
        told = []
        for parameter in inspect.signature(function).parameters.values():
            self.assertIn(parameter.kind, (parameter.POSITIONAL_OR_KEYWORD, parameter.KEYWORD_ONLY))
            star = "*" if parameter.kind == parameter.KEYWORD_ONLY else ""
            default = "" if parameter.default is parameter.empty else f"={parameter.default!r}"
            told.append(star + parameter.name + default)
        return told


if __name__ == "__main__":
    unittest.main()
