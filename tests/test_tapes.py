"""Promise [7]: comers, keeps, needs, tapes and the way back; and [0.2] (c)."""

import unittest

from plainmoment.errors import (NoChanges, NoInputs, NoMoment, NoProgram, NoRow, NoRun, NoSpot, NoState, NoTape,
                                NoValue)
from plainmoment.programs import Program
from plainmoment.runs import Run
from plainmoment.states import is_state, next_state
from plainmoment.tapes import (comers, is_tape, keep_of, keeps_old, played_back, shows_need, tape_of, told_need,
                               undone, value_ahead)
from tests.samples import (CALLER, COUNTDOWN, DEEP, Odd, changed_run, chance_of, odd_values, plain, procedures_of,
                           random_program, random_run, reckon)

EXAMPLE = plain((("get", "x"), ("set", "x", "add", "x", "x"), ("back", "x")))

KEEPING = (
    ("get", "x"), ("copy", "x", "y"), ("copy", "x", 0), ("copy", "x", 7),
    ("set", "x", "add", "y", "y"), ("set", "x", "add", 1, 2), ("set", "x", "add", "y", "z"),
    ("set", "x", "sub", "x", "x"), ("set", "x", "sub", "y", 1), ("set", "x", "sub", 5, 5),
    ("set", "x", "mul", "x", "x"), ("set", "x", "mul", "x", "y"), ("set", "x", "mul", "y", "x"),
    ("set", "x", "mul", "x", 0), ("set", "x", "mul", 0, "x"), ("set", "x", "mul", 3, "y"), ("set", "x", "mul", 3, 4),
    ("set", "x", "less", "x", "y"), ("set", "x", "less", "y", "x"), ("set", "x", "less", "x", "x"),
    ("set", "x", "less", "x", 1), ("set", "x", "less", 0, "x"), ("set", "x", "less", "x", 9972),
    ("set", "x", "less", 9972, "x"), ("set", "x", "less", 9971, "x"), ("set", "x", "less", "x", 0),
)

UNDOABLE = (
    ("set", "x", "add", "x", "y"), ("set", "x", "add", "y", "x"), ("set", "x", "add", "x", "x"),
    ("set", "x", "add", 0, "x"), ("set", "x", "add", "x", 9972), ("set", "x", "sub", "x", "y"),
    ("set", "x", "sub", "y", "x"), ("set", "x", "sub", "x", 3), ("set", "x", "sub", 3, "x"),
    ("set", "x", "mul", "x", 1), ("set", "x", "mul", 5, "x"), ("set", "x", "mul", "x", 9972), ("copy", "x", "x"),
)

OTHERS = (("if", "x", 0), ("go", 0), ("call", "x", "f", ("x",)), ("back", "x"), ("out", "x"))

# Row 3 is come to from rows 2 and 5, row 5 from the call in row 4 alone, row 1 from rows 0 and 6.
CROSSED = Program([
    ("main", (), (
        ("get", "x"),
        ("copy", "y", "x"),
        ("if", "x", 4),
        ("back", "y"),
        ("call", "y", "f", ("x", "y")),
        ("if", "y", 3),
        ("go", 1),
    )),
    ("f", ("p", "q"), (
        ("if", "p", 2),
        ("set", "q", "add", "q", 1),
        ("call", "p", "g", ()),
        ("back", "q"),
    )),
    ("g", (), (("out", 4), ("back", 0))),
])


def made_of(row, other, value):
    """What a row makes of x, reckoned anew; a get makes 0."""
    parts = [part if isinstance(part, int) else value if part == row[1] else other
             for part in row[3 if row[0] == "set" else 2:]]
    if row[0] == "get":
        return 0
    return parts[0] if row[0] == "copy" else reckon(row[2], *parts)


def least_need(row):
    for other in range(2):
        greatest = {made_of(row, other, value): value for value in range(9973)}
        for one in range(9973):
            if greatest[made_of(row, other, one)] > one:
                made = made_of(row, other, one)
                return (other, one, next(two for two in range(one + 1, 9973) if made_of(row, other, two) == made))
    return None


def keep_by_definition(run, t):
    program, state, behind = run.program(), run.state(t), run.ahead(t + 1)
    born, name, index, values = state[1][-1]
    row = program.row((name, index))
    old = frame = comer = None
    if row[0] == "back":
        frame = (born, index, values)
        if len(state[1]) > 1:
            caller = state[1][-2]
            old = dict(caller[3]).get(program.row(caller[1:3])[1], 0)
    elif row[0] in ("get", "copy", "set") and keeps_by_definition(row):
        old = dict(values).get(row[1], 0)
    if row[0] != "call" and behind[1]:
        spot = behind[1][-1][1:3]
        if len(comers_by_definition(program, spot)) > 1:
            comer = state[1][-2][2] if row[0] == "back" else index
    return (old, frame, comer)


def keeps_by_definition(row):
    """Whether any two values of x are made one, for some value of the others; a few of each are tried."""
    if row[0] == "get":
        return True
    tried = (0, 1, 2, 3, 5, 9971, 9972)
    for other in tried:
        made = [made_of(row, other, value) for value in range(9973)]
        if len(set(made)) < 9973:
            return True
    return False


def comers_by_definition(program, spot):
    return [other[1] for other in program.spots() if spot in program.nexts(other)]


def replaced(items, at, item):
    return items[:at] + (item,) + items[at + 1:]


def leads_back(run, tape):
    """Whether playing back by a tape tells the states of the run, the first one ahead of its changes, too."""
    program, inputs, changes = run.program(), run.inputs(), run.changes()
    try:
        told = played_back(program, inputs, changes, run.state(run.last()), tape)
    except NoTape:
        return False
    if told != [run.state(t) for t in range(run.last(), -1, -1)]:
        return False
    frames = {frame[0]: dict(frame[3]) for frame in told[-1][1]}
    for change, old in reversed(list(zip(changes, tape[1]))):
        if change[0] == 0:
            frames[change[1]][change[2]] = old
    return not any(any(values.values()) for values in frames.values())


class TapesTest(unittest.TestCase):
    def refused(self, error, told, function, *arguments):
        with self.assertRaises(error) as caught:
            function(*arguments)
        if told is None or type(told) is int:
            self.assertEqual(caught.exception.told, told)
            self.assertIs(type(caught.exception.told), type(told))
        else:
            self.assertIs(caught.exception.told, told)


class Comers(TapesTest):
    def test_ordinary(self):
        told = [(), (0, 6), (1,), (2, 5), (2,), (4,), (5,)]
        for index, rows in enumerate(told):
            self.assertEqual(comers(CROSSED, ("main", index)), rows)
        self.assertEqual(comers(spot=("f", 2), program=CROSSED), (0, 1))
        self.assertEqual(comers(CROSSED, ("f", 3)), (2,))
        self.assertEqual(comers(CROSSED, ("f", 0)), ())
        self.assertIs(type(comers(CROSSED, ("f", 2))), tuple)

    def test_one_row_is_one_comer(self):
        program = plain((("if", "x", 1), ("go", 1)))
        self.assertEqual(comers(program, ("main", 1)), (0, 1))
        self.assertEqual(comers(plain((("if", "x", 1), ("back", 1))), ("main", 1)), (0,))

    def test_by_chance(self):
        for seed in range(100):
            program = random_program(chance_of(seed))
            for spot in program.spots():
                self.assertEqual(comers(program, spot), tuple(comers_by_definition(program, spot)))
                self.assertTrue(all(index in range(12) for index in comers(program, spot)))

    def test_what_is_refused(self):
        for value in odd_values() + [("main", 7), ("main", True)]:
            self.refused(NoProgram, value, comers, value, value)
            self.refused(NoSpot, value, comers, CROSSED, value)


class Rows(TapesTest):
    def test_keeps_old(self):
        for row in KEEPING:
            self.assertIs(keeps_old(row), True, row)
        for row in UNDOABLE + OTHERS:
            self.assertIs(keeps_old(row), False, row)
        self.assertIs(keeps_old(row=("get", "y")), True)

    def test_value_ahead(self):
        for row in UNDOABLE:
            for value in (0, 1, 2, 3, 4986, 4987, 9971, 9972):
                for other in (0, 1, 7, 9972):
                    self.assertEqual(value_ahead(row, other, made_of(row, other, value)), value, row)
        self.assertEqual(value_ahead(value=10, other=3, row=("set", "x", "sub", "y", "x")), 9966)
        self.assertEqual(value_ahead(("set", "x", "mul", "x", 2), 0, 1), 4987)
        self.assertEqual(value_ahead(("set", "x", "sub", 3, "x"), 5, 1), 2)

    def test_all_of_one_row(self):
        for row in (("set", "x", "mul", 77, "x"), ("set", "x", "add", "x", "x"), ("set", "x", "sub", "y", "x")):
            for value in range(0, 9973, 7):
                self.assertEqual(value_ahead(row, 4, made_of(row, 4, value)), value)

    def test_what_value_ahead_refuses(self):
        for value in odd_values() + list(KEEPING + OTHERS):
            self.refused(NoRow, value, value_ahead, value, None, None)
        for row in UNDOABLE:
            for value in odd_values() + [9973, -1]:
                self.refused(NoValue, value, value_ahead, row, value, Odd())
                self.refused(NoValue, value, value_ahead, row, 1, value)

    def test_told_needs(self):
        for row in KEEPING:
            self.assertEqual(told_need(row), least_need(row), row)
        for row in UNDOABLE + OTHERS:
            self.assertIsNone(told_need(row))
        self.assertEqual(told_need(row=("set", "x", "mul", "x", "x")), (0, 1, 9972))
        self.assertEqual(told_need(("get", "x")), (0, 0, 1))
        self.assertEqual(told_need(("set", "x", "less", "y", "x")), (0, 1, 2))

    def test_shows_need(self):
        for row in KEEPING:
            self.assertIs(shows_need(row, told_need(row)), True)
        for row, value, right in (
                (("get", "x"), (5, 6, 7), True), (("get", "x"), (9972, 0, 9972), True), (("get", "x"), (0, 1, 1), False),
                (("get", "x"), (0, 2, 1), False), (("copy", "x", "y"), (3, 0, 9), True),
                (("set", "x", "mul", "x", "y"), (0, 4, 9), True), (("set", "x", "mul", "x", "y"), (1, 4, 9), False),
                (("set", "x", "less", "x", "y"), (5, 3, 4), True), (("set", "x", "less", "x", "y"), (5, 4, 5), False),
                (("set", "x", "less", "x", "y"), (5, 5, 6), True), (("set", "x", "less", "y", "x"), (5, 5, 6), False),
                (("set", "x", "mul", "x", "x"), (0, 4, 9969), True), (("set", "x", "mul", "x", "x"), (7, 4, 9968), False),
                (("set", "x", "add", "y", "z"), (5, 4, 5), True)):
            self.assertIs(shows_need(row, value), right, (row, value))
        self.assertIs(shows_need(value=(0, 0, 1), row=("get", "x")), True)

    def test_no_needs(self):
        for value in odd_values() + [[0, 0, 1], (0, 0), (0, 0, 1, 2), (False, 0, 1), (0, False, 1), (0, 0, True),
                                     (-1, 0, 1), (0, -1, 1), (0, 0, 9973), (9973, 0, 1), (None, 0, 1), (0, "x", 1),
                                     (Odd(), 0, 1), (0, 0, Odd())]:
            self.assertIs(shows_need(("get", "x"), value), False)
        for row in UNDOABLE + OTHERS:
            for value in ((0, 0, 1), (5, 1, 9972), (0, 0, 9972)):
                self.assertIs(shows_need(row, value), False)

    def test_what_needs_no_keep_can_be_undone(self):
        for row in UNDOABLE:
            for other in (0, 1, 2, 9972):
                self.assertEqual(len({made_of(row, other, value) for value in range(9973)}), 9973)

    def test_no_rows(self):
        for value in odd_values() + [("set", "x"), ["get", "x"], ("get", True)]:
            for function in (keeps_old, told_need):
                self.refused(NoRow, value, function, value)
            self.refused(NoRow, value, shows_need, value, value)


class Keeps(TapesTest):
    def test_the_example_of_the_document(self):
        told = (((0, None, None), (None, None, None), (None, (0, 2, (("x", 10),)), None)), ())
        self.assertEqual(tape_of(Run(EXAMPLE, [5])), told)
        self.assertEqual(tape_of(run=Run(EXAMPLE, [5])), told)

    def test_calls_and_backs(self):
        run = Run(CROSSED, [0, 5])
        self.assertEqual([run.spot_at(t) for t in range(run.last())], [("main", k) for k in (0, 1, 2, 3)])
        self.assertEqual(tape_of(run), (((0, None, 0), (0, None, None), (None, None, 2), (None, (0, 3, ()), None)), ()))
        run = Run(CROSSED, [3])
        spots = [("main", 0), ("main", 1), ("main", 2), ("main", 4), ("f", 0), ("f", 2), ("g", 0), ("g", 1), ("f", 3),
                 ("main", 5), ("main", 3)]
        self.assertEqual([run.spot_at(t) for t in range(run.last())], spots)
        frame = (("x", 3), ("y", 3))
        self.assertEqual(tape_of(run), ((
            (0, None, 0), (0, None, None), (None, None, None), (None, None, None), (None, None, 0), (None, None, None),
            (None, None, None), (3, (6, 1, ()), None), (3, (4, 3, (("q", 3),)), None), (None, None, 5),
            (None, (0, 3, frame), None)), ()))

    def test_the_comer_of_a_back_is_the_call(self):
        program = Program([("main", (), (("call", "x", "f", ()), ("if", "x", 0), ("back", "x"))),
                           ("f", (), (("back", 0),))])
        run = Run(program)
        self.assertEqual(keep_of(run, 1), (0, (1, 0, ()), None))
        program = Program([("main", (), (("call", "x", "f", ()), ("if", "x", 1), ("back", "x"))),
                           ("f", (), (("back", 0),))])
        self.assertEqual(keep_of(Run(program), 1), (0, (1, 0, ()), 0))
        self.assertEqual(keep_of(t=2, run=Run(program)), (None, None, None))

    def test_the_comer_of_a_back_from_deep_within(self):
        program = Program([
            ("main", (), (("out", 1), ("out", 2), ("call", "x", "f", (5,)), ("if", "x", 3), ("back", "x"))),
            ("f", ("p",), (("out", 3), ("call", "y", "g", ("p",)), ("if", "y", 2), ("back", 0))),
            ("g", ("q",), (("copy", "q", 0), ("if", "q", 1), ("out", 4), ("back", "q")))])
        run = Run(program)
        self.assertEqual([run.spot_at(t) for t in (8, 10)], [("g", 3), ("f", 3)])
        self.assertEqual(keep_of(run, 8), (0, (5, 3, ()), 1))
        self.assertEqual(keep_of(run, 10), (0, (3, 3, (("p", 5),)), 2))

    def test_a_call_has_no_comer(self):
        program = Program([("main", (), (("call", "x", "f", ()), ("back", "x"))),
                           ("f", (), (("if", 0, 0), ("if", 0, 0), ("back", 0)))])
        run = Run(program)
        self.assertEqual(comers(program, ("f", 0)), (0, 1))
        self.assertEqual(keep_of(run, 0), (None, None, None))
        self.assertEqual(undone(program, (), run.state(1), (None, None, None)), run.state(0))
        keep = (None, None, 0)
        self.refused(NoTape, keep, undone, program, (), run.state(1), keep)

    def test_keeps_of_changes(self):
        run = Run(EXAMPLE, [5], [(0, 0, "x", 3), (1, 0, "x", 0), (1, 0, "x", 8), (1, 0, "x", 8), (2, 0, "x", 1)])
        self.assertEqual(tape_of(run), (((3, None, None), (None, None, None), (None, (0, 2, (("x", 1),)), None)),
                                        (0, 5, 0, 8, 16)))
        run = Run(CALLER, [4], [(3, 0, "x", 6), (3, 2, "p", 1), (3, 0, "x", 7)])
        self.assertEqual(tape_of(run)[1], (4, 8, 6))

    def test_by_chance_as_the_document_says(self):
        for seed in range(60):
            run = changed_run(chance_of(seed), 60)
            keeps, olds = tape_of(run)
            self.assertEqual(keeps, tuple(keep_by_definition(run, t) for t in range(run.last())))
            self.assertEqual(keeps, tuple(keep_of(run, t) for t in range(run.last())))
            values = {}
            for (t, born, variable, value), old in zip(run.changes(), olds):
                self.assertEqual(old, values.get((t, born, variable), self.ahead_of(run, t, born, variable)))
                values[(t, born, variable)] = value

    def ahead_of(self, run, t, born, variable):
        frame = next(frame for frame in run.ahead(t)[1] if frame[0] == born)
        return dict(frame[3]).get(variable, 0)

    def test_what_is_refused(self):
        run = Run(EXAMPLE, [5])
        for value in odd_values() + [EXAMPLE]:
            self.refused(NoRun, value, keep_of, value, value)
            self.refused(NoRun, value, tape_of, value)
            self.refused(NoRun, value, is_tape, value, value)
        for value in odd_values() + [3, 600]:
            with self.assertRaises(NoMoment) as caught:
                keep_of(run, value)
            self.assertIs(caught.exception.told, value)


class Undone(TapesTest):
    def test_each_step_by_chance(self):
        for seed in range(120):
            run = changed_run(chance_of(seed), 60)
            for t in range(run.last()):
                told = undone(run.program(), run.inputs(), run.ahead(t + 1), keep_of(run, t))
                self.assertEqual(told, run.state(t))

    def test_each_kind_of_row(self):
        words = set()
        for seed in range(40):
            run = random_run(chance_of(seed), 60)
            for t in range(run.last()):
                words.add(run.program().row(run.spot_at(t))[0])
                told = undone(keep=keep_of(run, t), state=run.state(t + 1), inputs=list(run.inputs()),
                              program=run.program())
                self.assertEqual(told, run.state(t))
        self.assertEqual(words, {"set", "copy", "if", "go", "call", "back", "get", "out"})

    def test_any_other_keep_leads_elsewhere_or_nowhere(self):
        for seed in range(25):
            run = random_run(chance_of(seed), 40)
            program, inputs = run.program(), run.inputs()
            for t in range(run.last()):
                keep, behind = keep_of(run, t), run.state(t + 1)
                others = [replaced(keep, 0, old) for old in (None, 0, 1, 77)]
                others += [replaced(keep, 1, frame) for frame in (None, (0, 0, ()), (t, 1, (("x", 5),)), (0, 11, ()))]
                others += [replaced(keep, 2, comer) for comer in (None, 0, 1, 2, 3, 11)]
                for other in others:
                    if other == keep:
                        continue
                    try:
                        state = undone(program, inputs, behind, other)
                    except NoTape as error:
                        self.assertIs(error.told, other)
                        continue
                    self.assertNotEqual(state, run.state(t))
                    self.assertTrue(is_state(program, state))
                    self.assertEqual(next_state(program, inputs, state), behind)

    def led(self, told, rows, state, keep, inputs=()):
        program = Program([("main", (), tuple(rows)), ("f", ("p",), (("back", "p"),))])
        self.assertEqual(undone(program, inputs, state, keep), told)

    def test_states_that_no_run_has(self):
        rows = (("set", "x", "mul", "x", 3), ("copy", "y", "x"), ("out", "y"), ("back", 4))
        frames = ((0, "main", 1, (("x", 6), ("y", 9))),)
        self.led((0, ((0, "main", 0, (("x", 2), ("y", 9))),), 0, (5,), None), rows, (1, frames, 0, (5,), None),
                 (None, None, None))
        self.led((599, ((0, "main", 3, ()),), 7, (), None), rows, (600, (), 7, (), 4), (None, (0, 3, ()), None))

    def refuse(self, program, state, keep, inputs=()):
        self.assertTrue(is_state(program, state))
        self.refused(NoTape, keep, undone, program, inputs, state, keep)

    def test_no_step_leads_there(self):
        program = plain((("out", "x"), ("get", "x"), ("copy", "x", 3), ("if", "x", 5), ("back", 4), ("go", 3)))
        none = (None, None, None)
        self.refuse(program, (1, ((0, "main", 0, ()),), 0, (), None), none)
        self.refuse(program, (1, ((0, "main", 1, ()),), 0, (), None), none)
        self.refuse(program, (1, ((0, "main", 1, ()),), 0, (3,), None), none)
        self.refuse(program, (1, ((0, "main", 1, ()),), 1, (0,), None), none)
        self.refuse(program, (2, ((0, "main", 2, (("x", 6),)),), 1, (), None), (0, None, None), (5,))
        self.refuse(program, (2, ((0, "main", 2, (("x", 5),)),), 0, (), None), (0, None, None), (5,))
        self.refuse(program, (2, ((0, "main", 2, (("x", 5),)),), 1, (), None), none, (5,))
        self.refuse(program, (3, ((0, "main", 3, (("x", 5),)),), 1, (), None), (0, None, 2))
        self.refuse(program, (3, ((0, "main", 3, (("x", 3),)),), 1, (), None), (0, None, None))
        self.refuse(program, (3, ((0, "main", 3, (("x", 3),)),), 1, (), None), (0, None, 5))
        self.refuse(program, (3, ((0, "main", 3, (("x", 3),)),), 1, (), None), (None, None, 2))
        self.refuse(program, (3, ((0, "main", 3, (("x", 3),)),), 1, (), None), (0, (0, 4, ()), 2))
        self.refuse(program, (4, ((0, "main", 4, (("x", 3),)),), 1, (), None), none)
        self.refuse(program, (4, ((0, "main", 5, ()),), 1, (), None), none)
        self.refuse(program, (5, (), 1, (), 4), none)
        self.refuse(program, (5, (), 1, (), 4), (0, (0, 4, ()), None))
        self.refuse(program, (5, (), 1, (), 4), (None, (0, 4, ()), 0))
        self.refuse(program, (5, (), 1, (), 3), (None, (0, 4, ()), None))
        self.refuse(program, (5, (), 1, (), 4), (None, (1, 4, ()), None))
        self.refuse(program, (5, (), 1, (), 4), (None, (0, 3, ()), None))
        self.refuse(program, (5, (), 1, (), 4), (None, (0, 6, ()), None))
        self.refuse(program, (5, (), 1, (), 4), (None, (0, 4, (("y", 1),)), None))
        self.refuse(program, (5, (), 5, (), 4), (None, (0, 4, ()), None))

    def test_backs_and_calls_that_cannot_be(self):
        program = Program([("main", (), (("call", "x", "f", (3,)), ("back", "x"))), ("f", ("p",), (("back", "p"),))])
        behind = (3, ((0, "main", 1, (("x", 3),)),), 0, (), None)
        keep = (7, (1, 0, (("p", 3),)), None)
        self.assertEqual(undone(program, (), behind, keep),
                         (2, ((0, "main", 0, (("x", 7),)), (1, "f", 0, (("p", 3),))), 0, (), None))
        for other in (replaced(keep, 0, None), replaced(keep, 1, None), replaced(keep, 1, (0, 0, (("p", 3),))),
                      replaced(keep, 1, (3, 0, (("p", 3),))), replaced(keep, 1, (1, 0, (("p", 4),))),
                      replaced(keep, 1, (1, 1, (("p", 3),))), replaced(keep, 1, (1, 0, (("x", 3),))),
                      replaced(keep, 2, 0)):
            self.refuse(program, behind, other)
        called = (1, ((0, "main", 0, ()), (1, "f", 0, (("p", 3),))), 0, (), None)
        self.assertEqual(undone(program, (), called, (None, None, None)), (0, ((0, "main", 0, ()),), 0, (), None))
        self.refuse(program, called, (0, None, None))
        self.refuse(program, called, (None, None, 0))
        self.refuse(program, called, (None, (1, 0, (("p", 3),)), None))
        self.refuse(program, replaced(called, 1, ((0, "main", 0, ()), (1, "f", 0, ()))), (None, None, None))
        self.refuse(program, replaced(called, 1, ((0, "main", 0, ()), (1, "f", 0, (("p", 4),)))), (None, None, None))
        self.refuse(program, replaced(called, 2, 1), (None, None, None))

    def test_no_eleventh_frame(self):
        frames = ((0, "main", 1, ()),) + tuple((k, "f", 3, ()) for k in range(1, 9))
        behind = (50, frames + ((9, "f", 4, (("x", 7),)),), 1, (), None)
        self.refuse(DEEP, behind, (0, (20, 1, ()), None))
        self.refuse(DEEP, behind, (0, (20, 3, ()), None))
        nine = (50, frames[:8] + ((8, "f", 4, (("x", 7),)),), 1, (), None)
        self.assertEqual(undone(DEEP, (), nine, (0, (20, 1, ()), None))[1][-1], (20, "f", 1, ()))
        self.refuse(DEEP, nine, (0, (20, 3, ()), None))

    def test_what_is_refused_first(self):
        state, keep = (1, ((0, "main", 1, (("x", 5),)),), 1, (), None), (0, None, None)
        undone(EXAMPLE, [5], state, keep)
        for value in odd_values():
            self.refused(NoProgram, value, undone, value, value, value, value)
            if not isinstance(value, (list, tuple)):
                self.refused(NoInputs, value, undone, EXAMPLE, value, value, value)
            self.refused(NoState, value, undone, EXAMPLE, [5], value, value)
            self.refused(NoTape, value, undone, EXAMPLE, [5], state, value)
        first = (0, ((0, "main", 0, ()),), 0, (), None)
        self.refused(NoState, first, undone, EXAMPLE, [5], first, None)
        late = (601, (), 1, (), 4)
        self.refused(NoState, late, undone, EXAMPLE, [5], late, None)
        for value in ([0, None, None], (0, None), (0, None, None, None), (True, None, None), (False, None, None),
                      (-1, None, None), (9973, None, None), ("x", None, None), (0, None, False), (0, None, "x"),
                      (0, (), None), (0, None, -1), (0, None, 12), (Odd(), None, None), (0, Odd(), None),
                      (0, None, Odd())):
            self.refused(NoTape, value, undone, EXAMPLE, [5], state, value)
        last = (3, (), 1, (), 10)
        undone(EXAMPLE, [5], last, (None, (0, 2, (("x", 10),)), None))
        for frame in ([0, 2, (("x", 10),)], (0, 2), (0, 2, (("x", 10),), 0), (False, 2, (("x", 10),)),
                      (0, True, (("x", 10),)), (0, 2, [("x", 10)]), (0, 2, (["x", 10],)), (0, 2, (("x", True),)),
                      (0, 2, (("x", 10), ("x", 10))), (0, 2, ()), (0, 2, (("x", 0),)), (0, 12, ()), (0, 2, Odd())):
            value = (None, frame, None)
            self.refused(NoTape, value, undone, EXAMPLE, [5], last, value)


class PlayedBack(TapesTest):
    def test_by_chance(self):
        for seed in range(120):
            run = changed_run(chance_of(seed), 100)
            tape = tape_of(run)
            for t in {run.last(), run.last() // 2, 0, 1}:
                changes = [change for change in run.changes() if change[0] <= t]
                part = (tape[0][:t], tape[1][:len(changes)])
                told = played_back(run.program(), run.inputs(), changes, run.state(t), part)
                self.assertEqual(told, [run.state(moment) for moment in range(t, -1, -1)])
            self.assertTrue(is_tape(run, tape))

    def test_a_long_run(self):
        rows = [("set", "n", "add", "n", 1), ("out", "n"), ("set", "r", "less", "n", 149), ("if", "r", 0), ("back", "n")]
        run = Run(plain(rows))
        self.assertEqual(run.last(), 597)
        told = played_back(run.program(), (), (), run.state(597), tape_of(run))
        self.assertEqual(told, [run.state(t) for t in range(597, -1, -1)])

    def test_the_state_at_moment_0(self):
        state = (0, ((0, "main", 0, (("x", 4),)),), 0, (9,), None)
        self.assertEqual(played_back(EXAMPLE, (), (), state, ((), ())), [state])
        self.assertEqual(played_back(EXAMPLE, (), [(0, 0, "x", 4)], state, ((), (7,))), [state])
        self.refused(NoTape, 0, played_back, EXAMPLE, (), [(0, 0, "x", 5)], state, ((), (7,)))
        self.refused(NoTape, 0, played_back, EXAMPLE, (), [(0, 1, "x", 4)], state, ((), (7,)))
        self.refused(NoTape, 0, played_back, EXAMPLE, (), [(0, 0, "y", 0)], state, ((), (7,)))
        self.assertEqual(played_back(tape=((), (7, 5)), state=state, changes=[(0, 0, "x", 5), (0, 0, "x", 4)], inputs=(),
                                     program=EXAMPLE), [state])
        self.refused(NoTape, 0, played_back, EXAMPLE, (), [(0, 0, "x", 5), (0, 0, "x", 4)], state, ((), (7, 6)))

    def test_what_is_refused_in_order(self):
        run = Run(EXAMPLE, [5], [(1, 0, "x", 8), (2, 0, "x", 1)])
        state, changes, tape = run.state(3), run.changes(), tape_of(run)
        self.assertEqual(len(played_back(EXAMPLE, [5], list(changes), state, tape)), 4)
        for value in odd_values():
            self.refused(NoProgram, value, played_back, value, value, value, value, value)
            if not isinstance(value, (list, tuple)):
                self.refused(NoInputs, value, played_back, EXAMPLE, value, value, value, value)
                self.refused(NoChanges, value, played_back, EXAMPLE, [5], value, value, value)
            self.refused(NoState, value, played_back, EXAMPLE, [5], changes, value, value)
            self.refused(NoTape, None, played_back, EXAMPLE, [5], changes, state, value)
        for value in ([changes[1], changes[0]], [changes[0]] * 9, [(1, 0, "x", 9973)], [list(changes[0])],
                      [(1, True, "x", 1)], [(601, 0, "x", 1)], [Odd()]):
            self.refused(NoChanges, value, played_back, EXAMPLE, [5], value, None, None)
        self.refused(NoState, None, played_back, EXAMPLE, [5], [(600, 0, "x", 1)], None, None)
        for above in ([(1, 0, "x", 8), (4, 0, "x", 1)], [(4, 0, "x", 1)]):
            self.refused(NoChanges, above, played_back, EXAMPLE, [5], above, state, None)
        self.refused(NoTape, 3, played_back, EXAMPLE, [5], [(1, 0, "x", 8), (3, 0, "x", 1)], state, tape)

    def test_tapes_of_another_form(self):
        run = Run(EXAMPLE, [5], [(1, 0, "x", 8)])
        state, changes, (keeps, olds) = run.state(3), run.changes(), tape_of(run)
        wrong = [[keeps, olds], (keeps, olds, ()), (keeps,), (list(keeps), olds), (keeps, list(olds)), (keeps[:2], olds),
                 (keeps + keeps[:1], olds), (keeps, ()), (keeps, olds * 2), (keeps, (True,)), (keeps, (9973,)),
                 (keeps, (None,)), (keeps, Odd()), (Odd(), olds)]
        for keep in (None, [0, None, None], (0, None), (True, None, None), (0, None, "x"), (0, 5, None), (9973, None, None),
                     (0, (0, 2), None), (0, (0, 12, ()), None), (0, (601, 2, ()), None), (0, None, 12),
                     (0, (0, 2, (("x", 0),)), None), (0, (0, 2, (("y", 1), ("x", 1))), None),
                     (0, (0, 2, [("x", 10)]), None), Odd(), (Odd(), None, None), (0, Odd(), None)):
            wrong += [(replaced(keeps, at, keep), olds) for at in range(3)]
        for value in wrong:
            self.refused(NoTape, None, played_back, EXAMPLE, [5], changes, state, value)
            self.assertIs(is_tape(run, value), False)

    def test_the_greatest_moment_at_fault(self):
        run = Run(EXAMPLE, [5], [(0, 0, "x", 3), (1, 0, "x", 8), (2, 0, "x", 1)])
        state, changes, (keeps, olds) = run.state(3), run.changes(), tape_of(run)
        for at, t in ((0, 1), (1, 2), (2, 3)):
            wrong = replaced(keeps, at, replaced(keeps[at], 2, 5))
            self.refused(NoTape, t, played_back, EXAMPLE, [5], changes, state, (wrong, olds))
            self.refused(NoTape, t, played_back, EXAMPLE, [5], changes, state, (wrong, (1, 1, olds[2])))
        self.refused(NoTape, 3, played_back, EXAMPLE, [5], changes, state, (replaced(keeps, 2, keeps[0]), olds))
        self.refused(NoTape, 1, played_back, EXAMPLE, [5], changes, state, (keeps, (0, 5, 15)))
        self.refused(NoTape, 1, played_back, EXAMPLE, [5], changes, state, (keeps, (0, 4, 16)))
        self.refused(NoTape, 0, played_back, EXAMPLE, [5], changes, state,
                     (replaced(keeps, 0, (4, None, None)), olds))
        self.assertEqual(len(played_back(EXAMPLE, [5], changes, state, (keeps, (9, 5, 16)))), 4)
        self.refused(NoTape, 2, played_back, EXAMPLE, [5], replaced(changes, 2, (2, 0, "x", 2)), state, (keeps, olds))
        self.refused(NoTape, 2, played_back, EXAMPLE, [5], replaced(changes, 2, (2, 1, "x", 1)), state, (keeps, olds))
        self.refused(NoTape, 2, played_back, EXAMPLE, [5], replaced(changes, 2, (2, 0, "y", 0)), state, (keeps, olds))

    def test_is_tape(self):
        run = Run(EXAMPLE, [5], [(0, 0, "x", 3), (1, 0, "x", 8)])
        keeps, olds = tape_of(run)
        self.assertIs(is_tape(run, (keeps, olds)), True)
        self.assertIs(is_tape(value=(keeps, olds), run=run), True)
        for value in odd_values() + [(keeps, (1, 5)), (keeps, (0, 4)), (keeps, (False, 5)), (replaced(
                keeps, 0, (4, None, None)), olds), (replaced(keeps, 0, (3, None, 0)), olds), tape_of(Run(EXAMPLE, [5])),
                (replaced(keeps, 2, (None, (0, 2, (("x", 16.0),)), None)), olds),
                (replaced(keeps, 2, (None, (False, 2, (("x", 16),)), None)), olds)]:
            self.assertIs(is_tape(run, value), False)
        one = Run(plain((("set", "x", "less", 0, "x"), ("back", "x"))), (), [(0, 0, "x", 1)])
        self.assertIs(is_tape(one, (((1, None, None), (None, (0, 1, (("x", 1),)), None)), (0,))), True)
        self.assertIs(is_tape(one, (((True, None, None), (None, (0, 1, (("x", 1),)), None)), (0,))), False)
        self.assertIs(is_tape(one, (((1, None, None), (None, (0, 1, (("x", True),)), None)), (0,))), False)

    def test_no_other_tape_leads_back_by_the_same_states(self):
        others = 0
        for seed in range(40):
            chance = chance_of(seed)
            run = changed_run(chance, 30)
            keeps, olds = tape_of(run)
            self.assertTrue(leads_back(run, (keeps, olds)))
            tapes = []
            for at, keep in enumerate(keeps):
                tapes += [(replaced(keeps, at, replaced(keep, 0, old)), olds) for old in (None, 0, 1, 2)]
                tapes += [(replaced(keeps, at, replaced(keep, 2, comer)), olds) for comer in (None, 0, 1, 2)]
                tapes.append((replaced(keeps, at, replaced(keep, 1, (0, 0, ()))), olds))
            for at in range(len(olds)):
                tapes += [(keeps, replaced(olds, at, old)) for old in (0, 1, 2)]
            for tape in tapes:
                self.assertIs(is_tape(run, tape), tape == (keeps, olds))
                self.assertIs(leads_back(run, tape), tape == (keeps, olds))
                others += tape != (keeps, olds)
        self.assertGreater(others, 1000)

    def test_what_is_handed_out_is_new(self):
        run = Run(EXAMPLE, [5])
        arguments = (EXAMPLE, [5], [], run.state(3), tape_of(run))
        played_back(*arguments).clear()
        self.assertEqual(len(played_back(*arguments)), 4)
        self.assertEqual(arguments[1:3], ([5], []))


if __name__ == "__main__":
    unittest.main()
