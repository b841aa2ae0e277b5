"""Promise [6]: made code, its moments in a run, and what it tells; and [0.2] (b)."""

import unittest

from plainmoment.errors import NoMade, NoMoment, NoProgram, NoRun, NoStretch, NoVariable
from plainmoment.made import place_terms, plain_made, places, table_at, told_beside
from plainmoment.maderuns import (Made, made_moments, moments_of, places_at, plain_moment, step_back, step_on, told_at)
from plainmoment.programs import Program
from plainmoment.runs import Run
from plainmoment.stretches import stretch_of, stretches, worth
from tests.samples import CALLER, Odd, chance_of, odd_values, plain, procedures_of, random_run, right_made

PROGRAM = Program([
    ("main", (), (
        ("get", "x"),
        ("set", "y", "add", "x", 1),
        ("set", "x", "mul", "y", 2),
        ("copy", "z", "x"),
        ("out", "z"),
        ("call", "w", "f", ("z",)),
        ("if", 0, 1),
        ("back", "y"),
    )),
    ("f", ("p",), (("copy", "p", "p"), ("back", "p"))),
])
STRETCH = ("main", 1, 3)
MADE = (STRETCH, (
    ("set", "r0", "add", "x", 1),
    ("set", "z", "mul", "r0", 2),
    ("copy", "y", "r0"),
    ("copy", "x", "z"),
), (0, 1, 1, 3, 3))
NOTHING = (("f", 0, 0), (), (1,))
PLAIN = Program([("main", (), (("copy", "x", 3), ("set", "y", "add", "x", 1), ("if", 0, 0), ("back", "y")))])
ENDS = (("main", 0, 1), (("copy", "y", 9), ("copy", "x", 3), ("set", "y", "add", 3, 1)), (0, 0, 1, 2))


def short():
    """A program in which one stretch stands right behind another one, and its run."""
    program = plain((("copy", "x", 3), ("set", "x", "add", "x", 1), ("copy", "y", "x"), ("if", 0, 1), ("back", "y")))
    code = Made(program, [(("main", 0, 0), (("copy", "r0", 3), ("copy", "x", "r0")), (0, 1, 1)),
                          (("main", 1, 2), (("copy", "r1", "x"), ("set", "x", "add", "r1", 1), ("copy", "y", "x")),
                           (0, 0, 2, 2))])
    return code, Run(program)


def code_by_chance(seed, most=80):
    """Made code for a program by chance, and a run of it without changes."""
    chance = chance_of(seed)
    run = random_run(chance, most)
    found = [right_made(chance, run.program(), stretch) for stretch in stretches(run.program())]
    return Made(run.program(), [made for made in found if chance.random() < 0.8]), run


def moments_by_definition(code, run):
    found, t = [], 0
    while t < run.last():
        stretch = stretch_of(run.program(), run.spot_at(t))
        if stretch is not None and stretch[1] == run.spot_at(t)[1]:
            made = code.made_of(stretch)
            found += [((t, stop), t + made[2][stop]) for stop in range(len(made[1]) + 1)]
            t += stretch[2] - stretch[1] + 1
        else:
            found.append(((t, None), t))
            t += 1
    return found + [((t, None), t)]


class MadeRunsTest(unittest.TestCase):
    def refused(self, error, told, function, *arguments):
        with self.assertRaises(error) as caught:
            function(*arguments)
        if told is None or isinstance(told, int):
            self.assertEqual(caught.exception.told, told)
            self.assertIs(type(caught.exception.told), type(told))
        else:
            self.assertIs(caught.exception.told, told)


class MakingCode(MadeRunsTest):
    def test_ordinary(self):
        code = Made(PROGRAM, [NOTHING, MADE])
        self.assertEqual(code.program(), PROGRAM)
        self.assertEqual(code.listed(), [MADE, NOTHING])
        self.assertEqual(code.made_of(STRETCH), MADE)
        self.assertEqual(code.made_of(stretch=("f", 0, 0)), NOTHING)
        self.assertEqual(Made(PROGRAM).listed(), [])
        self.assertEqual(Made(mades=(), program=PROGRAM).made_of(STRETCH), plain_made(PROGRAM, STRETCH))

    def test_listed_by_procedures_then_first_rows(self):
        program = Program([
            ("zz", (), (("copy", "x", 1), ("get", "x"), ("copy", "x", 2), ("call", "x", "aa", ()), ("back", "x"))),
            ("mm", (), (("copy", "x", 1), ("back", "x"))), ("aa", (), (("copy", "x", 1), ("back", "x")))])
        all_plain = [plain_made(program, stretch) for stretch in stretches(program)]
        self.assertEqual([made[0] for made in all_plain], [("zz", 0, 0), ("zz", 2, 2), ("mm", 0, 0), ("aa", 0, 0)])
        self.assertEqual(Made(program, all_plain[::-1]).listed(), all_plain)
        self.assertEqual(Made(program, all_plain[2:] + all_plain[:1]).listed(), all_plain[:1] + all_plain[2:])

    def test_wrong_ones(self):
        for value in odd_values() + [procedures_of(PROGRAM)]:
            self.refused(NoProgram, value, Made, value, value)
        for value in odd_values():
            if not isinstance(value, (list, tuple)):
                self.refused(NoMade, None, Made, PROGRAM, value)
        wrong_row = (STRETCH, MADE[1][:3] + (("copy", "x", "r0"),), MADE[2])
        for value in odd_values() + [list(MADE), MADE[:2], wrong_row, plain_made(CALLER, ("dbl", 0, 0)),
                                     (STRETCH, (), (3,)), (("main", True, 3), *MADE[1:])]:
            self.refused(NoMade, 0, Made, PROGRAM, [value])
            self.refused(NoMade, 1, Made, PROGRAM, (MADE, value, value))
            self.refused(NoMade, 2, Made, PROGRAM, (MADE, NOTHING, value))
        self.refused(NoMade, 1, Made, PROGRAM, [MADE, MADE])
        self.refused(NoMade, 2, Made, PROGRAM, [MADE, NOTHING, plain_made(PROGRAM, STRETCH), 5])

    def test_no_stretch(self):
        code = Made(PROGRAM, [MADE])
        for value in odd_values() + [("main", 1, 2), ("main", True, 3), ["main", 1, 3], ("f", 0, 1), ("g", 0, 0)]:
            self.refused(NoStretch, value, code.made_of, value)

    def test_equal_code(self):
        code = Made(PROGRAM, [NOTHING, MADE])
        self.assertTrue(code == Made(Program(procedures_of(PROGRAM)), (MADE, NOTHING)))
        self.assertFalse(code != Made(PROGRAM, [MADE, NOTHING]))
        for other in (Made(PROGRAM), Made(PROGRAM, [MADE]), Made(PROGRAM, [plain_made(PROGRAM, STRETCH), NOTHING]),
                      Made(CALLER), PROGRAM, [MADE, NOTHING], None, 1):
            self.assertFalse(code == other)
            self.assertTrue(code != other)
        self.assertFalse(Made(PROGRAM) == Made(PROGRAM, [plain_made(PROGRAM, STRETCH)]))
        self.assertFalse(Made(PROGRAM) == Made(CALLER))
        self.assertTrue(Made(PROGRAM) == Made(PROGRAM, ()))

    def test_copies(self):
        given = [MADE]
        code = Made(PROGRAM, given)
        given.append(NOTHING)
        code.listed().clear()
        self.assertEqual(code.listed(), [MADE])
        self.assertEqual(code, Made(PROGRAM, [MADE]))


class Moments(MadeRunsTest):
    def test_made_moments(self):
        run = Run(PROGRAM, [9972])
        self.assertEqual([run.spot_at(t)[1] for t in range(run.last())], [0, 1, 2, 3, 4, 5, 0, 1, 6, 7])
        code = Made(PROGRAM, [MADE, NOTHING])
        told = ([(0, None)] + [(1, stop) for stop in range(5)] + [(4, None), (5, None), (6, 0), (7, None), (8, None),
                                                                    (9, None), (10, None)])
        self.assertEqual(made_moments(code, run), told)
        plains = [0, 1, 2, 2, 4, 4, 4, 5, 7, 7, 8, 9, 10]
        self.assertEqual([plain_moment(code, run, here) for here in told], plains)
        self.assertEqual(plain_moment(here=(1, 2), run=run, code=code), 2)
        self.assertEqual([moments_of(code, run, t) for t in range(11)],
                         [[(0, None)], [(1, 0)], [(1, 1), (1, 2)], [], [(1, 3), (1, 4), (4, None)], [(5, None)], [],
                          [(6, 0), (7, None)], [(8, None)], [(9, None)], [(10, None)]])

    def test_steps(self):
        run = Run(PROGRAM, [9972])
        code = Made(PROGRAM, [MADE, NOTHING])
        self.assertEqual(step_on(code, run, (0, None)), (1, 0))
        self.assertEqual(step_on(code, run, (1, 0)), (1, 1))
        self.assertEqual(step_on(code, run, (1, 1)), (1, 3))
        self.assertEqual(step_on(code, run, (1, 2)), (1, 3))
        for here in ((1, 3), (1, 4), (4, None)):
            self.assertEqual(step_on(code, run, here), (5, None))
            self.assertEqual(step_back(code, run, here), (1, 1))
        self.assertEqual(step_on(code, run, (5, None)), (6, 0))
        self.assertEqual(step_back(code, run, (5, None)), (1, 3))
        self.assertEqual(step_back(code, run, (6, 0)), (5, None))
        self.assertEqual(step_back(code, run, (7, None)), (5, None))
        self.assertEqual(step_back(code, run, (1, 2)), (1, 0))
        self.assertEqual(step_back(here=(1, 0), run=run, code=code), (0, None))
        self.assertIsNone(step_back(code, run, (0, None)))
        self.assertEqual(step_on(code, run, (9, None)), (10, None))
        self.assertIsNone(step_on(code, run, (10, None)))
        self.assertEqual(step_back(code, run, (10, None)), (9, None))

    def test_stretch_behind_stretch(self):
        code, run = short()
        self.assertEqual(made_moments(code, run), [(0, 0), (0, 1), (0, 2), (1, 0), (1, 1), (1, 2), (1, 3), (3, None),
                                                   (4, None), (5, None)])
        self.assertEqual(moments_of(code, run, 1), [(0, 1), (0, 2), (1, 0), (1, 1)])
        self.assertEqual(moments_of(code, run, 2), [])
        self.assertEqual(moments_of(code, run, 3), [(1, 2), (1, 3), (3, None)])
        for here in ((0, 1), (0, 2), (1, 0), (1, 1)):
            self.assertEqual(step_on(code, run, here), (1, 2))
            self.assertEqual(step_back(code, run, here), (0, 0))
        for here in ((1, 2), (1, 3), (3, None)):
            self.assertEqual(step_back(code, run, here), (0, 1))

    def test_by_chance_as_the_document_says(self):
        for seed in range(80):
            code, run = code_by_chance(seed)
            told = moments_by_definition(code, run)
            self.assertEqual(made_moments(code, run), [here for here, _ in told])
            seen = sorted({now for _, now in told})
            firsts = {now: next(here for here, other in told if other == now) for now in seen}
            for here, now in told:
                self.assertEqual(plain_moment(code, run, here), now)
                above = [other for other in seen if other > now]
                below = [other for other in seen if other < now]
                self.assertEqual(step_on(code, run, here), firsts[above[0]] if above else None)
                self.assertEqual(step_back(code, run, here), firsts[below[-1]] if below else None)
            for t in range(run.last() + 1):
                self.assertEqual(moments_of(code, run, t), [here for here, now in told if now == t])


class Told(MadeRunsTest):
    def test_places_at(self):
        run = Run(PROGRAM, [5])
        code = Made(PROGRAM, [MADE, NOTHING])
        lost = {"r0": None, "r1": None, "r2": None, "r3": None}
        self.assertEqual(places_at(code, run, (0, None)), {"w": 0, "x": 0, "y": 0, "z": 0, **lost})
        self.assertEqual(places_at(code, run, (1, 0)), {"w": 0, "x": 5, "y": 0, "z": 0, **lost})
        self.assertEqual(places_at(code, run, (1, 1)), {"w": 0, "x": 5, "y": 0, "z": 0, **lost, "r0": 6})
        self.assertEqual(places_at(code, run, (1, 2)), {"w": 0, "x": 5, "y": 0, "z": 12, **lost, "r0": 6})
        self.assertEqual(places_at(here=(1, 4), run=run, code=code), {"w": 0, "x": 12, "y": 6, "z": 12, **lost, "r0": 6})
        self.assertEqual(list(places_at(code, run, (1, 1))), places(PROGRAM, "main"))
        self.assertEqual(list(places_at(code, run, (4, None))), places(PROGRAM, "main"))
        self.assertEqual(places_at(code, run, (4, None)), {"w": 0, "x": 12, "y": 6, "z": 12, **lost})
        self.assertEqual(places_at(code, run, (6, 0)), {"p": 12, **lost})
        self.assertEqual(places_at(code, Run(PROGRAM, [9972]), (10, None)), {})

    def test_what_a_register_of_elsewhere_makes_is_lost(self):
        program = plain((("copy", "x", 1), ("back", "x")))
        code = Made(program, [(("main", 0, 0), (("set", "x", "mul", "r1", 0), ("set", "r2", "add", 1, "x"),
                                                ("copy", "x", 1)), (0, 0, 0, 1))])
        run = Run(program)
        self.assertEqual(places_at(code, run, (0, 1)), {"x": None, "r0": None, "r1": None, "r2": None, "r3": None})
        self.assertEqual(places_at(code, run, (0, 2))["r2"], None)
        self.assertEqual(places_at(code, run, (0, 3))["x"], 1)
        self.assertEqual(told_at(code, run, (0, 1), "x"), ("strange", None))

    def test_told_at(self):
        run = Run(PROGRAM, [5])
        code = Made(PROGRAM, [MADE, NOTHING])
        self.assertEqual(told_at(code, run, (0, None), "x"), ("shown", 0))
        self.assertEqual(told_at(code, run, (4, None), "x"), ("shown", 12))
        self.assertEqual(told_at(code, run, (1, 0), "x"), ("shown", 5))
        self.assertEqual(told_at(code, run, (1, 1), "y"), ("shown", 6))
        self.assertEqual(told_at(code, run, (1, 2), "z"), ("ahead", 4, 12))
        self.assertEqual(told_at(code, run, (1, 3), "x"), ("shown", 12))
        self.assertEqual(told_at(variable="w", here=(1, 3), run=run, code=code), ("shown", 0))

    def test_elder(self):
        code, run = short()
        self.assertEqual(told_at(code, run, (0, 1), "x"), ("shown", 3))
        late = Made(run.program(), [(("main", 1, 2), (("copy", "r1", "r1"), ("set", "x", "add", "x", 1),
                                                      ("copy", "y", "x")), (0, 1, 2, 2))])
        self.assertEqual(told_at(late, run, (1, 1), "x"), ("elder", 1, 3))
        self.assertEqual(told_at(late, run, (1, 2), "y"), ("shown", 4))

    def test_strange(self):
        code = Made(PLAIN, [ENDS])
        run = Run(PLAIN)
        self.assertEqual(told_at(code, run, (0, 0), "y"), ("shown", 0))
        self.assertEqual(told_at(code, run, (0, 1), "y"), ("strange", 9))
        self.assertEqual(told_at(code, run, (0, 2), "y"), ("strange", 9))
        self.assertEqual(told_at(code, run, (0, 3), "y"), ("shown", 4))

    def test_by_chance_as_the_document_says(self):
        words = set()
        for seed in range(60):
            code, run = code_by_chance(seed)
            program = run.program()
            for (t, stop), now in moments_by_definition(code, run):
                if t == run.last():
                    continue
                born, name = run.state(t)[1][-1][:2]
                names = program.variables_of(name)
                held = places_at(code, run, (t, stop))
                self.assertEqual(list(held), places(program, name))
                if stop is not None:
                    self.check_places(code, run, t, stop, held)
                for variable in names:
                    told = told_at(code, run, (t, stop), variable)
                    words.add(told[0])
                    if told[0] == "shown":
                        self.assertEqual(told, ("shown", run.cell_at(now, (born, variable))))
                        continue
                    made = code.made_of(stretch_of(program, run.spot_at(t)))
                    self.assertIsNone(table_at(program, made, stop)[variable])
                    beside = told_beside(program, made, stop)[variable]
                    self.assertEqual(told, (told[0], *[t + k for k in beside[1:]], held[variable]))
                    self.assertEqual(told[0], beside[0])
                    if told[0] != "strange":
                        self.assertEqual(told[2], run.cell_at(told[1], (born, variable)))
        self.assertEqual(words, {"shown", "elder", "ahead", "strange"})

    def check_places(self, code, run, t, stop, held):
        program = run.program()
        made = code.made_of(stretch_of(program, run.spot_at(t)))
        born = run.state(t)[1][-1][0]
        values = {name: run.cell_at(t, (born, name)) for name in program.variables_of(made[0][0])}
        for place, term in place_terms(program, made, stop).items():
            self.assertEqual(held[place], None if "'r" in repr(term) and self.lost(term) else worth(term, values))

    def lost(self, term):
        if isinstance(term, tuple):
            return self.lost(term[1]) or self.lost(term[2])
        return term in ("r0", "r1", "r2", "r3")


class Refusing(MadeRunsTest):
    def test_order_of_errors(self):
        code, run = Made(PROGRAM, [MADE, NOTHING]), Run(PROGRAM, [5])
        asked = {made_moments: 0, plain_moment: 1, places_at: 1, told_at: 2, moments_of: 1, step_on: 1, step_back: 1}
        for function, more in asked.items():
            for value in odd_values() + [PROGRAM, [MADE]]:
                self.refused(NoMade, value, function, *([value] * (2 + more)))
                self.refused(NoRun, value, function, code, *([value] * (1 + more)))
                if more > 0:
                    self.refused(NoMoment, value, function, code, run, *([value] * more))
                if more > 1:
                    self.refused(NoVariable, value, function, code, run, (0, None), value)

    def test_runs(self):
        code = Made(PROGRAM, [MADE])
        for run in (Run(PROGRAM, [5], [(0, 0, "x", 0)]), Run(PLAIN), Run(CALLER, [4])):
            self.refused(NoRun, run, made_moments, code, run)
            self.refused(NoRun, run, moments_of, code, run, 0)
        made_moments(code, Run(Program(procedures_of(PROGRAM)), [5]))

    def test_made_moments(self):
        code, run = Made(PROGRAM, [MADE, NOTHING]), Run(PROGRAM, [9972])
        right = made_moments(code, run)
        wrong = [(t, stop) for t in range(-1, 13) for stop in (None, -1, 0, 1, 2, 3, 4, 5) if (t, stop) not in right]
        wrong += [(True, 0), (1, True), (1, False), (False, None), (1.0, 0), (1, 0.0), [1, 0], (1, 0, 0), (1,), (0, Odd()),
                  (Odd(), None), (None, None), ("1", 0), (6, False)]
        for value in wrong:
            for function in (plain_moment, places_at, step_on, step_back):
                self.refused(NoMoment, value, function, code, run, value)
            self.refused(NoMoment, value, told_at, code, run, value, "x")

    def test_plain_moments(self):
        code, run = Made(PROGRAM, [MADE]), Run(PROGRAM, [9972])
        for value in odd_values() + [run.last() + 1]:
            with self.assertRaises(NoMoment) as caught:
                moments_of(code, run, value)
            self.assertIs(caught.exception.told, value)
        self.assertEqual(moments_of(t=run.last(), run=run, code=code), [(run.last(), None)])

    def test_variables(self):
        code, run = Made(PROGRAM, [MADE, NOTHING]), Run(PROGRAM, [9972])
        for value in ("p", "r0", "main", "zz"):
            self.refused(NoVariable, value, told_at, code, run, (1, 0), value)
        self.refused(NoVariable, "x", told_at, code, run, (6, 0), "x")
        self.assertEqual(told_at(code, run, (6, 0), "p"), ("shown", 0))
        for value in ("x", "y", "p"):
            self.refused(NoVariable, value, told_at, code, run, (10, None), value)

    def test_what_is_handed_out_is_new(self):
        code, run = Made(PROGRAM, [MADE]), Run(PROGRAM, [5])
        for function, more in ((made_moments, ()), (moments_of, (1,)), (places_at, ((1, 0),))):
            told = function(code, run, *more)
            again = function(code, run, *more)
            told.clear()
            self.assertEqual(function(code, run, *more), again)


if __name__ == "__main__":
    unittest.main()
