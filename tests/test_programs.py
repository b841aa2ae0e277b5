"""Promise [2]: programs, procedures, spots and nexts."""

import unittest

from plainmoment.errors import NoProcedure, NoProgram, NoSpot
from plainmoment.programs import Program
from tests.samples import CALLER, COUNTDOWN, Odd, chance_of, odd_values, plain, procedures_of, random_program

MAIN = ("main", (), (("back", 0),))


def procedure(name="f", parameters=(), rows=(("back", 0),)):
    return (name, parameters, rows)


class MakingPrograms(unittest.TestCase):
    def refuse(self, procedures, told):
        with self.assertRaises(NoProgram) as caught:
            Program(procedures)
        if told is None:
            self.assertIsNone(caught.exception.told)
        else:
            self.assertIs(type(caught.exception.told), int)
            self.assertEqual(caught.exception.told, told)

    def test_lists_and_tuples_make_like_programs(self):
        procedures = procedures_of(CALLER)
        self.assertEqual(Program(procedures), CALLER)
        self.assertEqual(Program(tuple(procedures)), CALLER)
        self.assertEqual(Program(procedures=procedures), CALLER)

    def test_one_to_four_procedures(self):
        for many in range(1, 5):
            made = Program([MAIN] + [procedure(name) for name in "fgh"[:many - 1]])
            self.assertEqual(len(made.names()), many)
        self.refuse([], None)
        self.refuse((), None)
        self.refuse([MAIN] + [procedure(name) for name in "fghi"], None)
        self.refuse([Odd()] * 5, None)

    def test_no_list_and_no_tuple(self):
        for value in (None, True, 1, "main", {}, {"main": 1}, {1}, MAIN[0], Odd(), object()):
            self.refuse(value, None)
        self.refuse(iter([MAIN]), None)

    def test_what_is_no_procedure_by_itself(self):
        wrong = [
            MAIN[:2], MAIN + (1,), list(MAIN), procedure(1), procedure("F"), procedure("fffff"), procedure(""),
            procedure(parameters=[]), procedure(parameters=("a", "a")), procedure(parameters=("a", "b", "c")),
            procedure(parameters=("a", 1)), procedure(parameters="ab"), procedure(parameters=("A",)),
            procedure(rows=()), procedure(rows=[("back", 0)]), procedure(rows=(("out", 0),) * 12 + (("back", 0),)),
            procedure(rows=(("out", 0),)), procedure(rows=(("if", "x", 0),)), procedure(rows=(("get", "x"),)),
            procedure(rows=(("back", 0), ("set", "x", "add", 1, 1))), procedure(rows=(("call", "x", "f", ()),)),
            procedure(rows=(("go", 1),)), procedure(rows=(("go", 2), ("go", 0))),
            procedure(rows=(("if", "x", 2), ("go", 0))), procedure(rows=(("go", -1),)),
            procedure(rows=(("go", False),)), procedure(rows=(["back", 0],)), procedure(rows=(("back", True),)),
        ] + odd_values()
        for value in wrong:
            self.refuse([value], 0)
            self.refuse([value, value], 0)
            self.refuse([MAIN, value], 1)
            self.refuse((MAIN, procedure("g"), procedure("h"), value), 3)

    def test_edges_of_procedures(self):
        twelve = (("out", 0),) * 11
        for rows in (twelve + (("back", "x"),), twelve + (("go", 11),), (("go", 0),), (("if", 1, 1), ("go", 0)),
                     (("back", 0), ("back", 1))):
            self.assertEqual(plain(rows).procedure("main"), ("main", (), rows))
        Program([("f", (), (("back", 0),)), ("main", ("f", "main"), (("go", 0),))])

    def test_main_has_no_parameters(self):
        self.refuse([procedure("main", ("x",))], 0)
        self.refuse([procedure("main", ("x",)), 1], 0)

    def test_names_are_unlike(self):
        self.refuse([MAIN, procedure("main")], 1)
        self.refuse([MAIN, procedure("f"), procedure("g"), procedure("f")], 3)
        self.refuse([MAIN, procedure("f"), procedure("f"), 7], 2)

    def test_wrong_calls(self):
        def caller(name, callee, operands):
            return procedure(name, (), (("call", "x", callee, operands), ("back", "x")))

        self.refuse([caller("main", "f", ())], 0)
        self.refuse([caller("main", "main", ())], 0)
        self.refuse([MAIN, caller("f", "main", ())], 1)
        self.refuse([MAIN, caller("f", "f", (1,))], 1)
        self.refuse([caller("main", "f", ()), procedure("f", ("a",))], 0)
        self.refuse([caller("main", "f", (1, 2)), procedure("f", ("a",))], 0)
        self.refuse([caller("main", "g", (1,)), procedure("f", ("a",))], 0)
        Program([caller("main", "f", (1,)), procedure("f", ("a",))])
        Program([MAIN, caller("f", "f", ())])

    def test_wrong_calls_only_behind_all_else(self):
        wrong = procedure("main", (), (("call", "x", "no", ()), ("back", "x")))
        self.refuse([wrong, procedure("f"), procedure("f")], 2)
        self.refuse([wrong, procedure("f"), 5], 2)
        self.refuse([wrong, procedure("main")], 1)
        self.refuse([wrong, procedure("f")], 0)
        second = procedure("f", (), (("back", 0), ("call", "x", "main", ()), ("back", "x")))
        self.refuse([MAIN, second, procedure("g")], 1)


class AskingPrograms(unittest.TestCase):
    def test_names(self):
        self.assertEqual(CALLER.names(), ["main", "dbl", "sum"])
        self.assertEqual(Program([("zz", (), (("back", 0),)), ("aa", (), (("back", 0),))]).names(), ["zz", "aa"])

    def test_procedure(self):
        self.assertEqual(CALLER.procedure("dbl"), ("dbl", ("p",), (("set", "p", "add", "p", "p"), ("back", "p"))))
        self.assertEqual(CALLER.procedure(name="main")[0], "main")

    def test_variables_of(self):
        self.assertEqual(CALLER.variables_of("main"), ["x", "y", "z"])
        self.assertEqual(CALLER.variables_of("sum"), ["p", "q", "r"])
        rows = (("set", "s", "add", "o", "t"), ("copy", "c", "d"), ("if", "i", 2), ("get", "g"), ("out", "u"),
                ("call", "k", "f", ("l", "m")), ("copy", "z", 1), ("go", 0), ("back", "b"))
        made = Program([("main", (), rows), ("f", ("q", "p"), (("back", 1),)), ("none", (), (("go", 0),))])
        self.assertEqual(made.variables_of("main"), sorted("sotcdiguklmzb"))
        self.assertEqual(made.variables_of("f"), ["p", "q"])
        self.assertEqual(made.variables_of("none"), [])

    def test_no_procedure(self):
        for value in [*odd_values(), "f", "x", ("main",)]:
            for asked in (CALLER.procedure, CALLER.variables_of):
                with self.assertRaises(NoProcedure) as caught:
                    asked(value)
                self.assertIs(caught.exception.told, value)

    def test_spots_and_rows(self):
        self.assertEqual(CALLER.spots(), [("main", k) for k in range(5)] + [("dbl", 0), ("dbl", 1)]
                         + [("sum", k) for k in range(6)])
        for spot in CALLER.spots():
            self.assertIs(CALLER.has_spot(spot), True)
            self.assertEqual(CALLER.row(spot), CALLER.procedure(spot[0])[2][spot[1]])

    def test_nexts(self):
        rows = (("if", "x", 3), ("if", "x", 2), ("if", 0, 0), ("go", 3), ("get", "x"), ("out", 1), ("copy", "x", 1),
                ("set", "x", "add", 1, 1), ("call", "x", "f", ()), ("if", 5, 9), ("back", 0), ("go", 0))
        made = Program([("main", (), rows), ("f", (), (("back", 0),))])
        told = [[1, 3], [2], [0, 3], [3], [5], [6], [7], [8], [9], [9, 10], [], [0]]
        for index, nexts in enumerate(told):
            self.assertEqual(made.nexts(("main", index)), [("main", at) for at in nexts])
        self.assertEqual(made.nexts(spot=("f", 0)), [])

    def test_no_spot(self):
        wrong = [*odd_values(), ("main",), ("main", 5), ("main", -1), ("main", True), ("main", False), ("main", 0.0),
                 ["main", 0], ("main", 0, 0), ("no", 0), (0, "main"), ("main", None), ("main", Odd()), (Odd(), 0),
                 ([], 0), "ma"]
        for value in wrong:
            self.assertIs(CALLER.has_spot(value), False)
            for asked in (CALLER.row, CALLER.nexts):
                with self.assertRaises(NoSpot) as caught:
                    asked(value)
                self.assertIs(caught.exception.told, value)
        self.assertIs(CALLER.has_spot(value=("main", 0)), True)

    def test_equal_programs(self):
        procedures = procedures_of(CALLER)
        self.assertTrue(Program(procedures) == CALLER)
        self.assertFalse(Program(procedures) != CALLER)
        self.assertFalse(Program([procedures[0], procedures[2], procedures[1]]) == CALLER)
        self.assertFalse(COUNTDOWN == CALLER)
        for value in [*odd_values()[:-8], procedures, tuple(procedures), object()]:
            self.assertFalse(CALLER == value)

    def test_copies(self):
        procedures = procedures_of(CALLER)
        made = Program(procedures)
        procedures.pop()
        made.names().clear()
        made.spots().clear()
        made.variables_of("sum").append("zz")
        made.nexts(("sum", 0)).clear()
        self.assertEqual(made, CALLER)
        self.assertEqual(made.names(), ["main", "dbl", "sum"])
        self.assertEqual(len(made.spots()), 13)
        self.assertEqual(made.variables_of("sum"), ["p", "q", "r"])
        self.assertEqual(made.nexts(("sum", 0)), [("sum", 1), ("sum", 2)])

    def test_many_programs(self):
        for seed in range(200):
            made = random_program(chance_of(seed))
            self.assertEqual(Program(tuple(procedures_of(made))), made)
            for spot in made.spots():
                nexts = made.nexts(spot)
                self.assertEqual(nexts, sorted(set(nexts)))
                self.assertTrue(all(made.has_spot(other) and other[0] == spot[0] for other in nexts))


if __name__ == "__main__":
    unittest.main()
