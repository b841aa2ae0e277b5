"""Promise [5]: made stretches, places, what is shown, and papers."""

import unittest

from plainmoment.errors import NoMade, NoProcedure, NoProgram, NoStop, NoStretch, NoVariable
from plainmoment.made import (accepts_shown, is_made, is_right, place_terms, places, plain_made, shown_in, shown_paper,
                              table_at, told_beside)
from plainmoment.programs import Program
from plainmoment.stretches import stretches, terms_at, worth
from tests.samples import (REGISTERS, Odd, chance_of, odd_values, plain, random_made, random_program, reckon,
                           right_made)

ROWS = (("set", "x", "add", "x", "y"), ("set", "x", "mul", "x", 2), ("copy", "y", "x"), ("back", "z"))
PROGRAM = Program([("main", (), ROWS), ("f", ("p",), (("copy", "p", "p"), ("back", "p")))])
STRETCH = ("main", 0, 2)
MADE = (STRETCH, (
    ("set", "r0", "add", "x", "y"),
    ("set", "r0", "mul", "r0", 2),
    ("copy", "y", "r0"),
    ("copy", "x", "r0"),
), (0, 1, 2, 2, 3))
ONE = ("add", "x", "y")
TWO = ("mul", ONE, 2)
EMPTY = (("f", 0, 0), (), (1,))
# At stop 2 the home of x has already what x has only at label 2.
AHEAD = (STRETCH, (
    ("set", "x", "add", "x", "y"),
    ("set", "x", "mul", "x", 2),
    ("copy", "y", "x"),
), (0, 0, 1, 3))
# At stops 2 and 3 the home of y has what y never has.
STRANGE = (STRETCH, (
    ("set", "r1", "add", "x", "y"),
    ("copy", "y", "r2"),
    ("set", "x", "mul", "r1", 2),
    ("copy", "y", "x"),
), (0, 1, 1, 2, 3))


def texts_behind(rows, begun):
    """The terms behind rows, as texts, by an own reckoning."""
    held = dict(begun)
    for row in rows:
        parts = [held[part] if isinstance(part, str) else str(part) for part in row[2 if row[0] == "copy" else 3:]]
        held[row[1]] = parts[0] if row[0] == "copy" else f"{row[2]}({parts[0]},{parts[1]})"
    return held


def text(term):
    return f"{term[0]}({text(term[1])},{text(term[2])})" if isinstance(term, tuple) else str(term)


def told_of(program, made, stop):
    """What is told at a stop, by the words of the document: the places that show, and what is told beside."""
    (name, first, _), rows, labels = made
    length = labels[-1]
    names = program.variables_of(name)
    among = names + list(REGISTERS)
    held = texts_behind(rows[:stop], {place: place for place in among})
    plain_rows = program.procedure(name)[2][first:first + length]
    by_label = [texts_behind(plain_rows[:label], {other: other for other in names}) for label in range(length + 1)]
    showing, beside = {}, {}
    for variable in names:
        order = [variable] + [place for place in among if place != variable]
        showing[variable] = [place for place in order if held[place] == by_label[labels[stop]][variable]]
        if not showing[variable]:
            having = [label for label in range(length + 1) if by_label[label][variable] == held[variable]]
            below = [label for label in having if label < labels[stop]]
            above = [label for label in having if label > labels[stop]]
            beside[variable] = ("elder", max(below)) if below else ("ahead", min(above)) if above else ("strange",)
    return held, showing, beside


def mades_by_chance(seeds):
    for seed in seeds:
        chance = chance_of(seed)
        program = random_program(chance)
        for stretch in stretches(program):
            yield chance, program, right_made(chance, program, stretch)
            yield chance, program, random_made(chance, program, stretch)


class MadeTest(unittest.TestCase):
    def refused(self, error, told, function, *arguments):
        with self.assertRaises(error) as caught:
            function(*arguments)
        self.assertIs(caught.exception.told, told)


class Forms(MadeTest):
    def test_places(self):
        self.assertEqual(places(PROGRAM, "main"), ["x", "y", "z", "r0", "r1", "r2", "r3"])
        self.assertEqual(places(procedure="f", program=PROGRAM), ["p", "r0", "r1", "r2", "r3"])
        self.assertEqual(places(plain((("go", 0),)), "main"), ["r0", "r1", "r2", "r3"])
        for value in odd_values():
            self.refused(NoProgram, value, places, value, value)
            self.refused(NoProcedure, value, places, PROGRAM, value)
        places(PROGRAM, "main").clear()
        self.assertEqual(len(places(PROGRAM, "main")), 7)

    def test_right_forms(self):
        for made in (MADE, EMPTY, AHEAD, STRANGE, (STRETCH, (), (3,)), (STRETCH, (("copy", "r3", "r0"),), (0, 3)),
                     (STRETCH, (("copy", "z", 9972),) * 12, (0,) * 12 + (3,)),
                     (STRETCH, (("copy", "z", 0),) * 2, (0, 3, 3)),
                     (STRETCH, (("set", "z", "less", "r1", 0),), (0, 3))):
            self.assertIs(is_made(PROGRAM, made), True, made)
        self.assertIs(is_made(value=MADE, program=PROGRAM), True)

    def test_wrong_forms(self):
        row = ("copy", "z", 1)
        wrong = odd_values() + [
            list(MADE), MADE[:2], MADE + (1,), (("main", 0, 1), (), (2,)), (("main", False, 2), (), (3,)),
            (["main", 0, 2], (), (3,)), (("f", 0, 1), (), (2,)), (STRETCH, [], (3,)),
            (STRETCH, (row,) * 13, (0,) * 13 + (3,)),
            (STRETCH, (row,), (0,)), (STRETCH, (row,), (0, 3, 3)), (STRETCH, (row,), [0, 3]), (STRETCH, (row,), (1, 3)),
            (STRETCH, (row,), (0, 2)), (STRETCH, (row,), (0, 4)), (STRETCH, (row,), (False, 3)),
            (STRETCH, (row,) * 2, (0, True, 3)), (STRETCH, (row,) * 3, (0, 2, 1, 3)), (STRETCH, (), (0,)),
            (STRETCH, (), ()), (STRETCH, (), (2,)), (STRETCH, (), (True,)), (STRETCH, (), 3), (STRETCH, (row,), (-1, 3)),
            (STRETCH, (), (3.0,)), (STRETCH, (), (Odd(),)), (Odd(), (), (3,)), (STRETCH, Odd(), (3,)),
            (STRETCH, (), Odd())]
        for value in wrong:
            self.assertIs(is_made(PROGRAM, value), False)

    def test_wrong_rows(self):
        for row in odd_values() + [
                ("set", "z", "add", 1), ("set", "z", "add", 1, 1, 1), ("copy", "z"), ("copy", "z", 1, 1),
                ("copy", "p", 1), ("copy", "z", "p"), ("copy", "r4", 1), ("copy", "z", "r4"), ("copy", 1, "z"),
                ("copy", "z", True), ("copy", "z", 9973), ("copy", "z", -1), ("set", "z", "div", 1, 1),
                ("sets", "z", "add", 1, 1), ("copy", "z", "add", 1, 1), ("set", "w", "add", 1, 1), ("set", "z", "add", "w", 1), ("set", "z", "add", 1, False),
                ("out", "z"), ("get", "z"), ("if", "z", 1), ["copy", "z", 1], ("copy", "z", Odd()),
                ("copy", Odd(), 1), (Odd(), "z", 1), ("set", "z", Odd(), 1, 1), ("set", "z", "add", 1, Odd())]:
            self.assertIs(is_made(PROGRAM, (STRETCH, (row,), (0, 3))), False)

    def test_plain_made(self):
        self.assertEqual(plain_made(PROGRAM, STRETCH), (STRETCH, ROWS[:3], (0, 1, 2, 3)))
        self.assertEqual(plain_made(stretch=("f", 0, 0), program=PROGRAM), (("f", 0, 0), (("copy", "p", "p"),), (0, 1)))
        for value in odd_values() + [("main", 0, 1), ("main", False, 2)]:
            self.refused(NoStretch, value, plain_made, PROGRAM, value)

    def test_errors_and_their_order(self):
        asked = {is_right: 0, place_terms: 1, shown_in: 2, table_at: 1, told_beside: 1, shown_paper: 2}
        for function, more in asked.items():
            for value in odd_values():
                self.refused(NoProgram, value, function, *([value] * (2 + more)))
                self.refused(NoMade, value, function, PROGRAM, *([value] * (1 + more)))
                if more > 0:
                    self.refused(NoStop, value, function, PROGRAM, MADE, *([value] * more))
                if more > 1:
                    self.refused(NoVariable, value, function, PROGRAM, MADE, 0, value)
            if more > 0:
                for value in (5, -1):
                    self.refused(NoStop, value, function, PROGRAM, MADE, value, *(["x"] * (more - 1)))
            if more > 1:
                for value in ("p", "r0", "add"):
                    self.refused(NoVariable, value, function, PROGRAM, MADE, 4, value)
        for value in odd_values():
            self.refused(NoProgram, value, is_made, value, value)
            self.refused(NoProgram, value, plain_made, value, value)
            self.refused(NoProgram, value, accepts_shown, value, value, value)
            self.refused(NoMade, value, accepts_shown, PROGRAM, value, value)


class Shown(MadeTest):
    def test_place_terms(self):
        begun = {place: place for place in places(PROGRAM, "main")}
        changes = [{}, {"r0": ONE}, {"r0": TWO}, {"y": TWO}, {"x": TWO}]
        for stop, change in enumerate(changes):
            begun.update(change)
            told = place_terms(PROGRAM, MADE, stop)
            self.assertEqual(told, begun)
            self.assertEqual(list(told), places(PROGRAM, "main"))
        self.assertEqual(place_terms(stop=2, made=STRANGE, program=PROGRAM)["y"], "r2")

    def test_is_right(self):
        for made in (MADE, EMPTY, AHEAD, STRANGE, plain_made(PROGRAM, STRETCH)):
            self.assertIs(is_right(PROGRAM, made), True)
        for made in ((STRETCH, (), (3,)), (STRETCH, MADE[1][:3], (0, 1, 2, 3)),
                     (STRETCH, MADE[1] + (("copy", "z", 1),), (0, 1, 2, 2, 3, 3)),
                     (STRETCH, (("set", "r0", "add", "y", "x"),) + MADE[1][1:], MADE[2]),
                     (STRETCH, MADE[1][:1] + (("set", "r0", "add", "r0", "r0"),) + MADE[1][2:], MADE[2])):
            self.assertIs(is_right(PROGRAM, made), False)

    def test_tables(self):
        self.assertEqual(table_at(PROGRAM, MADE, 0), {"x": "x", "y": "y", "z": "z"})
        self.assertEqual(table_at(PROGRAM, MADE, 1), {"x": "r0", "y": "y", "z": "z"})
        self.assertEqual(table_at(PROGRAM, MADE, 2), {"x": "r0", "y": "y", "z": "z"})
        self.assertEqual(table_at(PROGRAM, MADE, 3), {"x": "y", "y": None, "z": "z"})
        self.assertEqual(table_at(stop=4, made=MADE, program=PROGRAM), {"x": "x", "y": "y", "z": "z"})
        self.assertEqual(list(table_at(PROGRAM, MADE, 1)), ["x", "y", "z"])

    def test_shown_in(self):
        self.assertEqual(shown_in(PROGRAM, MADE, 3, "x"), ["y", "r0"])
        self.assertEqual(shown_in(PROGRAM, MADE, 4, "x"), ["x", "y", "r0"])
        self.assertEqual(shown_in(PROGRAM, MADE, 4, "y"), ["y", "x", "r0"])
        self.assertEqual(shown_in(PROGRAM, MADE, 3, "y"), [])
        self.assertEqual(shown_in(variable="z", stop=0, made=MADE, program=PROGRAM), ["z"])

    def test_told_beside(self):
        self.assertEqual(told_beside(PROGRAM, MADE, 0), {})
        self.assertEqual(told_beside(PROGRAM, MADE, 3), {"y": ("ahead", 3)})
        self.assertEqual(told_beside(PROGRAM, AHEAD, 2), {"x": ("ahead", 2)})
        self.assertEqual(table_at(PROGRAM, AHEAD, 2), {"x": None, "y": "y", "z": "z"})
        self.assertEqual(told_beside(PROGRAM, STRANGE, 2), {"y": ("strange",)})
        self.assertEqual(told_beside(stop=3, made=STRANGE, program=PROGRAM), {"y": ("strange",)})
        late = (STRETCH, (("copy", "r0", "x"),) + ROWS[:3], (0, 2, 2, 3, 3))
        self.assertEqual(told_beside(PROGRAM, late, 1), {"x": ("elder", 0)})
        self.assertEqual(told_beside(PROGRAM, late, 2), {"x": ("elder", 1)})
        self.assertEqual(told_beside(PROGRAM, late, 3), {})
        self.assertEqual(table_at(PROGRAM, late, 3), {"x": "x", "y": "x", "z": "z"})

    def test_the_greatest_elder_and_the_least_ahead(self):
        rows = (("copy", "y", 1), ("copy", "x", 5), ("copy", "y", 2), ("copy", "x", 6), ("copy", "y", 3), ("back", "x"))
        program = plain(rows)
        made = (("main", 0, 4), (("copy", "x", 5), ("copy", "x", 6), ("copy", "y", 3)), (0, 4, 4, 5))
        self.assertTrue(is_right(program, made))
        self.assertEqual(told_beside(program, made, 1), {"x": ("elder", 3), "y": ("elder", 0)})
        made = (("main", 0, 4), (("copy", "x", 5), ("copy", "x", 6), ("copy", "y", 3)), (0, 1, 1, 5))
        self.assertEqual(told_beside(program, made, 1), {"x": ("ahead", 2), "y": ("elder", 0)})
        self.assertEqual(told_beside(program, made, 2), {"x": ("ahead", 4), "y": ("elder", 0)})

    def test_all_by_chance_as_the_document_says(self):
        beside_words = set()
        for _, program, made in mades_by_chance(range(60)):
            self.assertTrue(is_made(program, made))
            for stop in range(len(made[1]) + 1):
                held, showing, beside = told_of(program, made, stop)
                terms = place_terms(program, made, stop)
                self.assertEqual({place: text(term) for place, term in terms.items()}, held)
                self.assertEqual(told_beside(program, made, stop), beside)
                self.assertEqual(list(told_beside(program, made, stop)), sorted(beside))
                beside_words |= {told[0] for told in beside.values()}
                table = table_at(program, made, stop)
                for variable, found in showing.items():
                    self.assertEqual(shown_in(program, made, stop, variable), found)
                    self.assertEqual(table[variable], found[0] if found else None)
            names = program.variables_of(made[0][0])
            plain_terms = terms_at(program, made[0], made[2][-1])
            right = all(held[name] == text(plain_terms[name]) for name in names)
            self.assertIs(is_right(program, made), right)
        self.assertEqual(beside_words, {"elder", "ahead", "strange"})

    def test_right_ones_by_chance_are_right(self):
        for seed in range(60):
            chance = chance_of(seed)
            program = random_program(chance)
            for stretch in stretches(program):
                self.assertTrue(is_right(program, right_made(chance, program, stretch)))
                self.assertTrue(is_right(program, plain_made(program, stretch)))


class Papers(MadeTest):
    def accepts(self, paper, made=MADE, program=PROGRAM):
        self.assertIs(accepts_shown(program, made, paper), True)

    def rejects(self, paper, made=MADE, program=PROGRAM):
        self.assertIs(accepts_shown(program, made, paper), False)

    def test_shown(self):
        self.assertEqual(shown_paper(PROGRAM, MADE, 3, "x"), ("shown", 3, "x", "y"))
        self.assertEqual(shown_paper(variable="z", stop=0, made=MADE, program=PROGRAM), ("shown", 0, "z", "z"))
        for place in ("x", "y", "r0"):
            self.accepts(("shown", 4, "x", place))
        for place in ("z", "r1", "p", "r4", None, Odd(), 0, ["x"]):
            self.rejects(("shown", 4, "x", place))
        self.rejects(("shown", 3, "x", "x"))
        self.rejects(("shown", 3, "y", "y"))
        self.assertIs(accepts_shown(paper=("shown", 0, "x", "x"), made=MADE, program=PROGRAM), True)

    def test_any_value(self):
        for value in odd_values() + [("shown", 0, "x"), ("shown", 0, "x", "x", 1), ["shown", 0, "x", "x"],
                                     ("shown", False, "x", "x"), ("shown", 5, "x", "x"), ("shown", -1, "x", "x"),
                                     ("shown", 0.0, "x", "x"), ("shown", 0, "p", "p"), ("shown", 0, "r0", "r0"),
                                     ("shown", 0, Odd(), "x"), ("shown", Odd(), "x", "x"), (Odd(), 0, "x", "x"),
                                     ("told", 0, "x", "x"), ("gone", 0, "x", "x"), ("gone", 3, "y", Odd()),
                                     ("gone", 3, "y", []), ("gone", 3, "y", ()), ("gone", 3, "y", {})]:
            self.rejects(value)

    def gone(self, stop=3, variable="y", made=MADE):
        paper = shown_paper(PROGRAM, made, stop, variable)
        self.assertEqual(paper[:3], ("gone", stop, variable))
        self.assertIs(type(paper[3]), list)
        return paper[3]

    def test_gone(self):
        rows = self.gone()
        self.assertEqual([row[0] for row in rows], places(PROGRAM, "main"))
        self.accepts(("gone", 3, "y", rows))
        self.accepts(("gone", 3, "y", tuple(rows)))
        self.accepts(("gone", 3, "y", rows[::-1]))
        self.accepts(("gone", 3, "y", tuple(rows[3:] + rows[:3])))
        self.rejects(["gone", 3, "y", rows])
        self.rejects(("gone", 3, "x", rows))
        self.rejects(("gone", 4, "y", rows))
        self.rejects(("gone", 2, "y", rows))
        self.rejects(("shown", 3, "y", rows))

    def test_one_row_for_each_place(self):
        rows = self.gone()
        for at, row in enumerate(rows):
            self.rejects(("gone", 3, "y", rows[:at] + rows[at + 1:]))
            self.rejects(("gone", 3, "y", rows + [row]))
            self.rejects(("gone", 3, "y", rows[:at] + [rows[at - 1]] + rows[at + 1:]))
            for wrong in odd_values() + [list(row), row[:2], row + (1,), ("p", *row[1:]), (Odd(), *row[1:])]:
                self.rejects(("gone", 3, "y", rows[:at] + [wrong] + rows[at + 1:]))

    def with_row(self, rows, place, values=None, meaning=None):
        return [(one, old if values is None else values, told if meaning is None else meaning) if one == place
                else (one, old, told) for one, old, told in rows]

    def test_values_from_just_all_places(self):
        rows = self.gone()
        for place, values, _ in rows:
            for name in values:
                lacking = {one: value for one, value in values.items() if one != name}
                self.rejects(("gone", 3, "y", self.with_row(rows, place, values=lacking)))
                for wrong in (None, True, False, 9973, -1, "x", 1.0, Odd()):
                    self.rejects(("gone", 3, "y", self.with_row(rows, place, values={**values, name: wrong})))
            for more in ("p", "r4", 0, None):
                self.rejects(("gone", 3, "y", self.with_row(rows, place, values={**values, more: 1})))
                self.rejects(("gone", 3, "y", self.with_row(rows, place, values={**lacking, more: 1})))
            for wrong in (None, [], (), Odd(), list(values.items())):
                self.rejects(("gone", 3, "y", self.with_row(rows, place, values=wrong if wrong is not None else 5)))

    def test_meanings(self):
        rows = self.gone()
        for place, _, meaning in rows:
            self.accepts(("gone", 3, "y", self.with_row(rows, place, meaning={**meaning, ("less", 9972, 0): 5})))
            for key in (("div", 1, 1), ("add", 1), ("add", 9973, 1), ("add", 1, -1), ("add", True, 9971), "add", 1, None,
                        ("add", 1, 1, 1), ("add", "x", 1), (1, 1, 1)):
                self.rejects(("gone", 3, "y", self.with_row(rows, place, meaning={**meaning, key: 1})))
            for wrong in (9973, -1, True, False, None, "x", 1.0, Odd()):
                self.rejects(("gone", 3, "y", self.with_row(rows, place, meaning={**meaning, ("less", 0, 0): wrong})))
            for wrong in ([], (), 5, Odd()):
                self.rejects(("gone", 3, "y", self.with_row(rows, place, meaning=wrong)))

    def test_both_must_be_told_and_unlike(self):
        # At stop 3 of MADE y has x + y times 2 in its home; ahead of label 2 it is still the first y.
        values = {"x": 1, "y": 2, "z": 3, "r0": 4, "r1": 5, "r2": 6, "r3": 7}
        told = {("add", 1, 2): 8, ("mul", 8, 2): 9}
        rows = [(place, values, told) for place in values]
        self.accepts(("gone", 3, "y", rows))
        for place in ("x", "z", "r1", "r2", "r3"):
            self.accepts(("gone", 3, "y", self.with_row(rows, place, meaning={})))
            self.rejects(("gone", 3, "y", self.with_row(rows, place, values={**values, place: 2, "y": 2})))
        for place in ("y", "r0"):
            self.rejects(("gone", 3, "y", self.with_row(rows, place, meaning={})))
            self.rejects(("gone", 3, "y", self.with_row(rows, place, meaning={("add", 1, 2): 8})))
            self.rejects(("gone", 3, "y", self.with_row(rows, place, meaning={("mul", 8, 2): 9})))
            self.rejects(("gone", 3, "y", self.with_row(rows, place, meaning={("add", 1, 2): 8, ("mul", 8, 2): 2})))
        self.accepts(("gone", 3, "y", self.with_row(rows, "y", values={**values, "x": 9}, meaning={
            ("add", 9, 2): 2, ("mul", 2, 2): 3})))

    def test_the_plain_value_must_be_told_too(self):
        late = (STRETCH, (("copy", "r0", "x"),) + ROWS[:3], (0, 2, 2, 3, 3))
        values = {"x": 1, "y": 2, "z": 3, "r0": 4, "r1": 5, "r2": 6, "r3": 7}
        told = {("add", 1, 2): 8, ("mul", 8, 2): 9}
        rows = [(place, values, told) for place in values]
        self.accepts(("gone", 1, "x", rows), made=late)
        for place in values:
            self.rejects(("gone", 1, "x", self.with_row(rows, place, meaning={("add", 1, 2): 8})), made=late)
            self.rejects(("gone", 1, "x", self.with_row(rows, place, meaning={})), made=late)

    def test_what_is_handed_out_is_new(self):
        rows = self.gone()
        self.assertEqual(len({id(row[1]) for row in rows}), len(rows))
        self.assertEqual(len({id(row[2]) for row in rows}), len(rows))
        for _, values, meaning in rows:
            values.clear()
            meaning.clear()
        rows.clear()
        table_at(PROGRAM, MADE, 1).clear()
        place_terms(PROGRAM, MADE, 1).clear()
        told_beside(PROGRAM, MADE, 3).clear()
        shown_in(PROGRAM, MADE, 3, "x").clear()
        self.accepts(("gone", 3, "y", self.gone()))
        self.assertEqual(told_beside(PROGRAM, MADE, 3), {"y": ("ahead", 3)})

    def test_papers_by_chance(self):
        words = set()
        for _, program, made in mades_by_chance(range(40)):
            for stop in range(len(made[1]) + 1):
                table = table_at(program, made, stop)
                for variable, place in table.items():
                    paper = shown_paper(program, made, stop, variable)
                    words.add(paper[0])
                    self.assertEqual(paper[0], "gone" if place is None else "shown")
                    self.assertTrue(accepts_shown(program, made, paper))
                    for one in places(program, made[0][0]):
                        shows = one in shown_in(program, made, stop, variable)
                        self.assertIs(accepts_shown(program, made, ("shown", stop, variable, one)), shows)
        self.assertEqual(words, {"shown", "gone"})

    def test_no_paper_tells_that_what_is_shown_is_gone(self):
        for chance, program, made in mades_by_chance(range(25)):
            for stop in range(len(made[1]) + 1):
                among = places(program, made[0][0])
                for variable in program.variables_of(made[0][0]):
                    if table_at(program, made, stop)[variable] is None:
                        continue
                    values = {place: chance.randrange(9973) for place in among}
                    rows = [(place, values, self.meaning_of(program, made, values)) for place in among]
                    self.rejects(("gone", stop, variable, rows), made=made, program=program)

    def meaning_of(self, program, made, values):
        """The plain meaning of all that is reckoned in a made stretch and in its plain rows."""
        meaning = {}
        name, first, last = made[0]
        for rows in (made[1], program.procedure(name)[2][first:last + 1]):
            held = dict(values)
            for row in rows:
                parts = [held[part] if isinstance(part, str) else part for part in row[-2 if row[0] == "set" else -1:]]
                if row[0] == "set":
                    meaning[(row[2], *parts)] = reckon(row[2], *parts)
                held[row[1]] = parts[0] if row[0] == "copy" else meaning[(row[2], *parts)]
        return meaning

    def test_what_is_shown_is_the_plain_value(self):
        for chance, program, made in mades_by_chance(range(30)):
            names = program.variables_of(made[0][0])
            values = {name: chance.randrange(9973) for name in names}
            for stop in range(len(made[1]) + 1):
                terms = place_terms(program, made, stop)
                plain_terms = terms_at(program, made[0], made[2][stop])
                for variable, place in table_at(program, made, stop).items():
                    if place is not None:
                        self.assertEqual(worth(terms[place], values), worth(plain_terms[variable], values))


if __name__ == "__main__":
    unittest.main()
