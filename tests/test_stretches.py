"""Promise [4]: beginnings, stretches, labels and terms."""

import unittest

from plainmoment.errors import (NoLabel, NoProcedure, NoProgram, NoSpot, NoStretch, NoTerm, NoValues, NoVariable)
from plainmoment.programs import Program
from plainmoment.stretches import beginnings, is_term, stretch_of, stretches, terms_at, worth
from tests.samples import (CALLER, COUNTDOWN, Odd, chance_of, odd_values, plain, procedures_of, random_program,
                           random_run, reckon)

MIXED = Program([
    ("main", (), (
        ("set", "a", "add", "a", 1),
        ("copy", "b", "a"),
        ("set", "c", "mul", "b", "a"),
        ("if", "c", 2),
        ("copy", "a", 5),
        ("out", "a"),
        ("set", "b", "sub", "b", "b"),
        ("set", "b", "less", "b", 3),
        ("call", "b", "f", ("a",)),
        ("copy", "d", "d"),
        ("back", "d"),
    )),
    ("f", ("p",), (("back", "p"), ("copy", "p", 1), ("set", "p", "add", "p", "q"), ("go", 2))),
])


def deep_term(many, begun="x", side=1):
    """A term with so many ops within one another."""
    term = begun
    for _ in range(many):
        term = ("add", term, 1) if side == 1 else ("mul", 2, term)
    return term


def stretches_by_definition(program):
    """All stretches as the document defines them, by trying all pairs of rows."""
    found = []
    for name, _, rows in procedures_of(program):
        begun = {0} | {row[-1] for row in rows if row[0] in ("if", "go")}
        begun |= {k + 1 for k, row in enumerate(rows[:-1]) if row[0] not in ("set", "copy")}
        for first in range(len(rows)):
            for last in range(first, len(rows)):
                inside = all(rows[k][0] in ("set", "copy") for k in range(first, last + 1))
                alone = first in begun and not any(k in begun for k in range(first + 1, last + 1))
                ends = last + 1 in begun or rows[last + 1:last + 2] and rows[last + 1][0] not in ("set", "copy")
                if inside and alone and ends:
                    found.append((name, first, last))
    return found


class Stretches(unittest.TestCase):
    def test_beginnings(self):
        self.assertEqual(beginnings(MIXED, "main"), [0, 2, 4, 6, 9])
        self.assertEqual(beginnings(MIXED, "f"), [0, 1, 2])
        self.assertEqual(beginnings(procedure="main", program=COUNTDOWN), [0, 1, 2, 3, 4])
        self.assertEqual(beginnings(plain((("go", 0),)), "main"), [0])
        self.assertEqual(beginnings(plain((("go", 1), ("back", 1))), "main"), [0, 1])
        self.assertEqual(beginnings(plain((("out", 1), ("back", 1))), "main"), [0, 1])
        self.assertEqual(beginnings(plain((("back", 1), ("back", 1))), "main"), [0, 1])

    def test_stretches(self):
        self.assertEqual(stretches(MIXED), [("main", 0, 1), ("main", 2, 2), ("main", 4, 4), ("main", 6, 7),
                                            ("main", 9, 9), ("f", 1, 1), ("f", 2, 2)])
        self.assertEqual(stretches(program=COUNTDOWN), [("main", 1, 1), ("main", 4, 5)])
        self.assertEqual(stretches(plain((("back", 0),))), [])

    def test_stretch_of(self):
        told = {("main", 0): ("main", 0, 1), ("main", 1): ("main", 0, 1), ("main", 2): ("main", 2, 2),
                ("main", 3): None, ("main", 5): None, ("main", 7): ("main", 6, 7), ("main", 8): None,
                ("main", 10): None, ("f", 0): None, ("f", 2): ("f", 2, 2)}
        for spot, stretch in told.items():
            self.assertEqual(stretch_of(MIXED, spot), stretch)
        self.assertEqual(stretch_of(spot=("main", 6), program=MIXED), ("main", 6, 7))

    def test_all_programs_by_chance(self):
        for seed in range(300):
            program = random_program(chance_of(seed))
            found = stretches(program)
            self.assertEqual(found, stretches_by_definition(program))
            for spot in program.spots():
                having = [part for part in found if part[0] == spot[0] and part[1] <= spot[1] <= part[2]]
                self.assertEqual(len(having), 1 if program.row(spot)[0] in ("set", "copy") else 0)
                self.assertEqual(stretch_of(program, spot), having[0] if having else None)

    def test_runs_come_into_stretches_at_first_alone(self):
        for seed in range(60):
            run = random_run(chance_of(seed))
            for t in range(1, run.last()):
                stretch = stretch_of(run.program(), run.spot_at(t))
                if stretch is not None and run.spot_at(t)[1] > stretch[1]:
                    self.assertEqual(run.spot_at(t - 1), (stretch[0], run.spot_at(t)[1] - 1))

    def test_what_is_refused(self):
        for value in odd_values():
            for asked in (lambda: beginnings(value, value), lambda: stretches(value), lambda: stretch_of(value, value),
                          lambda: terms_at(value, value, value)):
                with self.assertRaises(NoProgram) as caught:
                    asked()
                self.assertIs(caught.exception.told, value)
            with self.assertRaises(NoProcedure) as caught:
                beginnings(MIXED, value)
            self.assertIs(caught.exception.told, value)
            with self.assertRaises(NoSpot) as caught:
                stretch_of(MIXED, value)
            self.assertIs(caught.exception.told, value)
        with self.assertRaises(NoSpot):
            stretch_of(MIXED, ("main", True))
        with self.assertRaises(NoProcedure):
            beginnings(MIXED, "g")


class Terms(unittest.TestCase):
    def test_terms(self):
        for term in (0, 9972, "x", "less", ("add", "x", 1), ("less", 1, ("mul", "abcd", "abcd")),
                     ("sub", ("add", 1, 2), ("mul", 3, "add"))):
            self.assertIs(is_term(term), True, term)

    def test_no_terms(self):
        wrong = odd_values() + [
            9973, -1, "r0", "r3", "abcde", ("div", 1, 1), ("add", 1), ("add", 1, 1, 1), ["add", 1, 1],
            ("add", True, 1), ("add", 1, False), ("add", 1, "r0"), ("add", ("add", 1, 9973), 1), (1, 1, 1),
            ("add", Odd(), 1), (Odd(), 1, 1), ("add", 1, [1]), ("add", 1, ("mul", 1, None)), ("x",), ("ADD", 1, 1)]
        for value in wrong:
            self.assertIs(is_term(value), False)
        self.assertIs(is_term(value=("add", 1, 2)), True)

    def test_24_ops_within_one_another_and_25(self):
        for side in (1, 2):
            self.assertIs(is_term(deep_term(24, side=side)), True)
            self.assertIs(is_term(deep_term(25, side=side)), False)
            self.assertIs(is_term(deep_term(200000, side=side)), False)
        self.assertIs(is_term(("add", deep_term(23), deep_term(23, side=2))), True)
        self.assertIs(is_term(("add", deep_term(23), deep_term(24, side=2))), False)
        self.assertIs(is_term(("add", deep_term(24), 1)), False)

    def test_terms_at_each_label(self):
        rows = (("set", "x", "add", "x", "y"), ("copy", "y", "x"), ("set", "x", "mul", 2, "y"), ("copy", "z", 7),
                ("set", "w", "less", "z", "w"), ("back", "v"))
        program = plain(rows)
        stretch = ("main", 0, 4)
        begun = {"v": "v", "w": "w", "x": "x", "y": "y", "z": "z"}
        one = ("add", "x", "y")
        changes = [{}, {"x": one}, {"y": one}, {"x": ("mul", 2, one)}, {"z": 7}, {"w": ("less", 7, "w")}]
        for label, change in enumerate(changes):
            begun.update(change)
            self.assertEqual(terms_at(program, stretch, label), begun)
            self.assertEqual(list(terms_at(program, stretch, label)), ["v", "w", "x", "y", "z"])
        self.assertEqual(terms_at(label=0, stretch=("f", 1, 1), program=MIXED), {"p": "p", "q": "q"})
        self.assertEqual(terms_at(MIXED, ("f", 1, 1), 1), {"p": 1, "q": "q"})
        self.assertEqual(terms_at(MIXED, ("main", 6, 7), 2)["b"], ("less", ("sub", "b", "b"), 3))

    def test_terms_tell_the_values_of_runs(self):
        for seed in range(80):
            run = random_run(chance_of(seed))
            program = run.program()
            for t in range(run.last()):
                stretch = stretch_of(program, run.spot_at(t))
                if stretch is None or stretch[1] != run.spot_at(t)[1]:
                    continue
                born = run.state(t)[1][-1][0]
                names = program.variables_of(stretch[0])
                values = {name: run.cell_at(t, (born, name)) for name in names}
                for label in range(stretch[2] - stretch[1] + 2):
                    for name, term in terms_at(program, stretch, label).items():
                        self.assertTrue(is_term(term))
                        self.assertEqual(worth(term, values), run.cell_at(t + label, (born, name)))

    def test_no_stretch_and_no_label(self):
        wrong = odd_values() + [("main", 0, 0), ("main", 1, 1), ("main", 0, 2), ("main", 3, 3), ("main", False, True),
                                ("main", False, 1), ("main", 0, True), ("main", 0.0, 1.0), ["main", 0, 1],
                                ("main", 0, 1, 2), ("f", 0, 1), ("g", 0, 1), ("main", 0), ("main", 0, Odd()),
                                ("main", Odd(), 1), (Odd(), 0, 1)]
        for value in wrong:
            with self.assertRaises(NoStretch) as caught:
                terms_at(MIXED, value, value)
            self.assertIs(caught.exception.told, value)
        for value in odd_values() + [3, 10]:
            with self.assertRaises(NoLabel) as caught:
                terms_at(MIXED, ("main", 0, 1), value)
            self.assertIs(caught.exception.told, value)
        terms_at(MIXED, ("main", 0, 1), 2)
        terms_at(MIXED, ("main", 6, 7), 2)
        for value in (3, 4, 14):
            with self.assertRaises(NoLabel):
                terms_at(MIXED, ("main", 6, 7), value)


class Worth(unittest.TestCase):
    def test_ordinary_ones(self):
        values = {"x": 5, "y": 9972, "zz": 0}
        self.assertEqual(worth(7, {}), 7)
        self.assertEqual(worth("y", values), 9972)
        self.assertEqual(worth(("add", "x", "y"), values), 4)
        self.assertEqual(worth(("sub", "zz", ("mul", "x", "x")), values), 9948)
        self.assertEqual(worth(("less", ("sub", "x", 6), "x"), values), 0)
        self.assertEqual(worth(values={"x": 1}, term=("less", "x", 2)), 1)
        self.assertEqual(worth(deep_term(24), {"x": 1}), 25)
        self.assertEqual(values, {"x": 5, "y": 9972, "zz": 0})

    def test_terms_by_chance(self):
        def made(chance, deep):
            if deep == 0 or chance.random() < 0.2:
                return chance.choice(("x", "yy", 3, chance.randrange(9973)))
            return (chance.choice(("add", "sub", "mul", "less")), made(chance, deep - 1), made(chance, deep - 1))

        def told(term, values):
            if isinstance(term, tuple):
                return reckon(term[0], told(term[1], values), told(term[2], values))
            return term if isinstance(term, int) else values[term]

        for seed in range(200):
            chance = chance_of(seed)
            term = made(chance, 7)
            values = {"x": chance.randrange(9973), "yy": chance.randrange(9973)}
            self.assertEqual(worth(term, values), told(term, values))

    def test_what_is_refused_and_in_which_order(self):
        for value in odd_values() + [("add", 1, True), deep_term(25), "r0"]:
            with self.assertRaises(NoTerm) as caught:
                worth(value, value)
            self.assertIs(caught.exception.told, value)
        wrong = [value for value in odd_values() if not isinstance(value, dict)] + [
            {"x": 9973}, {"x": -1}, {"x": True}, {"x": None}, {"x": "x"}, {"X": 1}, {1: 1}, {"r0": 1}, {("x",): 1},
            {None: 1}, {"x": 1, "abcde": 2}, {"x": Odd()}, [("x", 1)]]
        for value in wrong:
            for term in ("x", 1, ("add", "yy", "x")):
                with self.assertRaises(NoValues) as caught:
                    worth(term, value)
                self.assertIs(caught.exception.told, value)

    def test_the_first_variable_that_is_lacking_from_the_left(self):
        for term, values, told in (("x", {}, "x"), (("add", "b", "a"), {}, "b"), (("add", "b", "a"), {"b": 1}, "a"),
                                   (("add", ("mul", 1, ("sub", "a", "c")), "b"), {"a": 0}, "c"),
                                   (("add", 1, ("mul", ("sub", 2, 3), "b")), {"a": 0}, "b")):
            with self.assertRaises(NoVariable) as caught:
                worth(term, values)
            self.assertEqual(caught.exception.told, told)

    def test_returned_dicts_are_new(self):
        told = terms_at(MIXED, ("main", 0, 1), 2)
        told.clear()
        self.assertEqual(len(terms_at(MIXED, ("main", 0, 1), 2)), 4)
        beginnings(MIXED, "main").clear()
        stretches(CALLER).clear()
        self.assertEqual(len(beginnings(MIXED, "main")), 5)
        self.assertEqual(len(stretches(CALLER)), 2)


if __name__ == "__main__":
    unittest.main()
