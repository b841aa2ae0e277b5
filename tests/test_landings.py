"""Promise [14]: landed states, right landings and their papers, what is gone or spoilt, and maps; of [0.2] (f)."""

import unittest

from plainmoment.edits import Edit
from plainmoment.errors import NoCell, NoEdit, NoLanding, NoMoment, NoProgram, NoRun, TooMany
from plainmoment.landings import (accepts_landing, goal, gone_behind, landed, landing_paper, landings, led_on,
                                  maps_for, next_landing, spoilt)
from plainmoment.programs import Program
from plainmoment.runs import Run
from tests.samples import (CALLER, COUNTDOWN, Machine, Odd, Told, beneath_anew, changed_run, chance_of, edited,
                           key_anew, live_anew, odd_values, plain, procedures_of, random_run)

OLD = plain((("get", "x"), ("set", "y", "add", "x", 1), ("set", "x", "mul", "y", 2), ("out", "x"), ("back", "x")))
NEW = plain((("get", "x"), ("set", "y", "add", "x", 1), ("set", "x", "mul", "y", 2), ("copy", "z", 7), ("out", "x"),
             ("back", "x")))
ENDLESS = plain((("get", "x"), ("if", "x", 1), ("out", 1), ("out", 2), ("back", "x")))


def spots(*told):
    return [(("main", one), ("main", other)) for one, other in told]


EDIT = Edit(OLD, NEW, spots((0, 0), (1, 1), (2, 2), (3, 4), (4, 5)))

# Both procedures, with a frame beneath: row 1 of main is a call, and f reads p only.
DEEP_OLD = Program([
    ("main", (), (("copy", "k", 4), ("call", "r", "f", ("k",)), ("out", "r"), ("back", "k"))),
    ("f", ("p",), (("set", "q", "add", "p", 1), ("set", "p", "add", "p", "q"), ("back", "p"))),
])
DEEP_NEW = Program([
    ("main", (), (("copy", "k", 4), ("copy", "m", 1), ("call", "r", "f", ("k",)), ("out", "r"), ("back", "k"))),
    ("f", ("p",), (("set", "q", "add", "p", 1), ("set", "p", "add", "p", "q"), ("back", "p"))),
])
DEEP = Edit(DEEP_OLD, DEEP_NEW, [*spots((0, 0), (1, 2), (2, 3), (3, 4)),
                                 *((("f", at), ("f", at)) for at in range(3))])


def landed_anew(run, edit, t):
    led = dict(edit.pairs())
    moment, frames, asked, outputs, result = run.state(t)
    told = []
    for born, name, index, values in frames:
        if (name, index) not in led:
            return None
        kept = tuple((one, value) for one, value in values if one in edit.new().variables_of(name))
        told.append((born, name, led[name, index][1], kept))
    return (moment, tuple(told), asked, outputs, result)


def live_cells(program, state):
    frames = state[1]
    return {(born, name) for at, (born, procedure, index, _) in enumerate(frames, 1)
            for name in (live_anew if at == len(frames) else beneath_anew)(program, (procedure, index))}


def goals_anew(run, edit, own, t, gone=()):
    state = landed_anew(run, edit, t)
    if state is None or live_cells(edit.new(), state) & set(gone):
        return []
    key = key_anew(edit.new(), run.inputs(), state)
    return [u for u in range(own.last() + 1)
            if own.state(u)[3] == state[3] and key_anew(edit.new(), own.inputs(), own.state(u)) == key]


def reasons_anew(program, inputs, state, other):
    """All reasons by the words of the document, in their order."""
    told = []
    if state[3] != other[3]:
        told.append(("outputs",))
    if state[4] != other[4]:
        told.append(("result",))
    if tuple(inputs)[state[2]:] != tuple(inputs)[other[2]:]:
        told.append(("inputs",))
    one, two = state[1], other[1]
    if len(one) != len(two):
        told.append(("frames",))
    for n, (frame, twin) in enumerate(zip(one, two)):
        if frame[1] != twin[1]:
            told.append(("procedure", n))
        elif frame[2] != twin[2]:
            told.append(("row", n))
        elif (n == len(one) - 1) == (n == len(two) - 1):
            live = (live_anew if n == len(one) - 1 else beneath_anew)(program, frame[1:3])
            told += [("value", n, name) for name in live if dict(frame[3]).get(name, 0) != dict(twin[3]).get(name, 0)]
    return told


def machine_at(program, inputs, state):
    """A machine of the program that goes on from a state."""
    machine = Machine(procedures_of(program), inputs)
    machine.moment, _, machine.asked, outputs, machine.result = state
    machine.outputs = list(outputs)
    machine.frames = [[born, name, index, dict(values)] for born, name, index, values in state[1]]
    return machine


def edited_runs(seed, many, most=60):
    """Runs with and without changes, with edits of their programs and the own runs of these."""
    chance = chance_of(seed)
    done = 0
    while done < many:
        run = changed_run(chance, most) if chance.random() < 0.4 else random_run(chance, most)
        for _ in range(3):
            edit = edited(chance, run.program())
            try:
                own = Run(edit.new(), run.inputs())
            except TooMany:
                continue
            if own.last() <= 2 * most:
                yield run, edit, own
                done += 1


class Examples(Told):
    def test_of_the_document(self):
        self.assertEqual((landings(Run(OLD, [5]), EDIT), gone_behind(Run(OLD, [5]), EDIT, 3)),
                         ([(0, 0), (1, 1), (2, 2), (3, 4), (4, 5), (5, 6)], [(0, "y"), (0, "z")]))

    def test_landed(self):
        run = Run(OLD, [5], [(3, 0, "y", 8)])
        self.assertEqual(landed(run, EDIT, 0), (0, ((0, "main", 0, ()),), 0, (), None))
        self.assertEqual(landed(run, EDIT, 3), (3, ((0, "main", 4, (("x", 12), ("y", 8))),), 1, (), None))
        self.assertEqual(landed(run, EDIT, 5), (5, (), 1, (12,), 12))

    def test_variables_that_the_other_program_lacks_go(self):
        back = Edit(NEW, OLD, spots((0, 0), (1, 1), (2, 2), (4, 3), (5, 4)))
        run = Run(NEW, [5])
        self.assertIsNone(landed(run, back, 3))
        self.assertEqual(landed(run, back, 4), (4, ((0, "main", 3, (("x", 12), ("y", 6))),), 1, (), None))
        self.assertEqual(goal(run, back, 4), 3)

    def test_rows_that_are_not_told(self):
        edit = Edit(OLD, NEW, spots((0, 0), (4, 5)))
        run = Run(OLD, [5])
        self.assertEqual([landed(run, edit, t) is None for t in range(6)], [False, True, True, True, False, False])
        self.assertEqual(landings(run, edit), [(0, 0), (4, 5), (5, 6)])
        self.assertEqual([next_landing(run, edit, t) for t in range(6)],
                         [(0, 0), (4, 5), (4, 5), (4, 5), (4, 5), (5, 6)])
        self.assertIsNone(goal(run, edit, 2))
        beneath = Edit(DEEP_OLD, DEEP_NEW, [pair for pair in DEEP.pairs() if pair[0] != ("main", 1)])
        self.assertIsNone(landed(Run(DEEP_OLD), beneath, 3))
        self.assertEqual(landing_paper(Run(DEEP_OLD), beneath, 3), ("map", 3, 0))

    def test_frames_beneath(self):
        run = Run(DEEP_OLD)
        self.assertEqual(landed(run, DEEP, 3), (3, ((0, "main", 2, (("k", 4),)),
                                                    (2, "f", 1, (("p", 4), ("q", 5)))), 0, (), None))
        self.assertEqual(landings(run, DEEP), [(0, 0), (1, 2), (2, 3), (3, 4), (4, 5), (5, 6), (6, 7), (7, 8)])
        self.assertEqual(gone_behind(run, DEEP, 3), [(0, "m"), (0, "r")])
        self.assertEqual(gone_behind(run, DEEP, 4), [(0, "m"), (0, "r"), (3, "q")])
        self.assertEqual(gone_behind(run, DEEP, 7), [])

    def test_what_is_unlike_but_not_live_may_be(self):
        run = Run(DEEP_OLD, (), [(2, 0, "r", 9), (4, 2, "q", 77)])
        self.assertEqual(goal(run, DEEP, 2), 3)
        self.assertEqual(goal(run, DEEP, 4), 5)
        self.assertIsNone(goal(Run(DEEP_OLD, (), [(3, 2, "q", 77)]), DEEP, 3))
        self.assertIsNone(goal(Run(DEEP_OLD, (), [(3, 0, "k", 77)]), DEEP, 3))

    def test_inputs_left(self):
        program = plain((("get", "x"), ("copy", "x", 3), ("get", "y"), ("back", "x")))
        other = plain((("copy", "x", 3), ("get", "y"), ("back", "x")))
        edit = Edit(program, other, spots((2, 1), (3, 2)))
        self.assertIsNone(goal(Run(program, [1, 2]), edit, 2))
        self.assertIsNone(goal(Run(program, [1, 1]), edit, 2))
        self.assertEqual(landing_paper(Run(program, [1, 1]), edit, 2)[2][1], ("inputs",))
        # Beyond the last input nothing is left in both.
        self.assertEqual(goal(Run(program), edit, 2), 1)
        self.assertEqual(goal(Run(program, [7]), edit, 4), 3)
        self.assertEqual(goal(Run(program, [7]), edit, 3), 2)


class Gone(Told):
    def test_a_gone_cell_that_is_live(self):
        run = Run(DEEP_OLD)
        self.assertEqual(goal(run, DEEP, 3, [(0, "r")]), 4)
        self.assertEqual(goal(run, DEEP, 3, ()), 4)
        for gone in ([(0, "k")], ((2, "p"),), [(2, "q")], [(0, "r"), (0, "k")]):
            self.assertIsNone(goal(run, DEEP, 3, gone))
            self.assertEqual(self.told(NoLanding, gone_behind, run, DEEP, 3, gone), 3)
        self.assertEqual(goal(run, DEEP, 4, [(2, "q")]), 5)
        self.assertEqual(gone_behind(run, DEEP, 4, [(2, "q")]), [(0, "m"), (0, "r"), (3, "q")])
        self.assertEqual(goal(run, DEEP, 4, gone=[(2, "q")]), 5)

    def test_a_variable_that_the_other_program_lacks_is_not_live(self):
        back = Edit(NEW, OLD, spots((4, 3)))
        self.assertEqual(goal(Run(NEW, [5]), back, 4, [(0, "z"), (0, "y")]), 3)

    def test_the_identity(self):
        run = Run(DEEP_OLD)
        same = Edit.same(DEEP_OLD)
        self.assertEqual(landings(run, same), [(t, t) for t in range(run.last() + 1)])
        self.assertEqual(gone_behind(run, same, 3), [])
        self.assertEqual(gone_behind(run, same, 3, [(0, "r")]), [(0, "r")])
        self.assertEqual(gone_behind(run, same, 4, [(2, "q")]), [(0, "r"), (2, "q")])
        changed = Run(DEEP_OLD, (), [(4, 2, "q", 5)])
        self.assertEqual(gone_behind(changed, same, 4), [(0, "r"), (2, "q")])
        self.assertEqual(gone_behind(changed, same, 3), [(0, "r")])
        nearly = Edit(DEEP_OLD, DEEP_OLD, same.pairs()[1:])
        self.assertEqual(gone_behind(run, nearly, 3), [(0, "r")])

    def test_what_is_no_gone(self):
        run = Run(DEEP_OLD)
        for function in (goal, gone_behind):
            values = [value for value in odd_values() if repr(value) not in ("[]", "()")]
            for gone in values + [{(0, "r"): 1}, "r", [(0, "r"), (0, "r")], [(0, "r"), None], [(0, "m")], [(0, "p")],
                                  [(1, "p")], [[0, "r"]], [(False, "r")], [(0, Odd())], [(2, "p"), (3, "p")]]:
                self.assertIs(self.told(NoCell, function, run, DEEP, 3, gone), gone)
            self.assertEqual(self.told(NoCell, function, run, DEEP, 5, [(2, "p")]), [(2, "p")])
            self.assertEqual(self.told(NoCell, function, run, DEEP, 7, [(0, "r")]), [(0, "r")])


class LedOn(Told):
    def test_led_on(self):
        run = Run(OLD, [5], [(3, 0, "x", 9)])
        self.assertEqual(led_on(run, EDIT, 2), ((12,), 12))
        self.assertEqual(led_on(run, EDIT, 3), ((9,), 9))
        self.assertEqual(led_on(run, EDIT, 5), ((9,), 9))
        edit = Edit(OLD, NEW, spots((0, 0), (3, 0)))
        self.assertEqual(led_on(Run(OLD, [5, 6]), edit, 3), ((14,), 14))

    def test_spoilt(self):
        run = Run(OLD, [5], [(3, 0, "x", 9)])
        self.assertIsNone(spoilt(run, EDIT, 2))
        self.assertEqual(spoilt(run, EDIT, 3), 0)
        self.assertEqual(spoilt(run, EDIT, 5), 0)
        self.assertEqual(spoilt(Run(OLD, [5], [(4, 0, "x", 9)]), EDIT, 4), 1)
        self.assertEqual(spoilt(Run(OLD, [5], [(4, 0, "x", 9)]), EDIT, 5), 1)
        longer = plain((("out", 1), ("out", 2), ("back", 3)))
        same = spots((0, 0), (1, 1), (2, 2))
        self.assertEqual(spoilt(Run(longer), Edit(longer, longer, spots((0, 1))), 0), 0)
        self.assertEqual(spoilt(Run(longer), Edit(longer, longer, spots((1, 2))), 1), 1)
        self.assertEqual(spoilt(Run(longer), Edit(longer, longer, spots((2, 1))), 2), 2)
        self.assertIsNone(spoilt(Run(longer), Edit(longer, longer, same), 2))
        other = plain((("out", 1), ("out", 2), ("back", 4)))
        self.assertEqual(spoilt(Run(longer), Edit(longer, other, same), 3), 2)
        self.assertIsNone(spoilt(Run(longer), Edit(longer, other, same), 2))

    def test_right_landings_put_out_the_same(self):
        right = wrong = 0
        for run, edit, own in edited_runs(1402, 60):
            for t in range(run.last() + 1):
                state = landed_anew(run, edit, t)
                if state is None:
                    self.assertEqual(self.told(NoLanding, led_on, run, edit, t), t)
                    self.assertEqual(self.told(NoLanding, spoilt, run, edit, t), t)
                    continue
                machine = machine_at(edit.new(), run.inputs(), state)
                steps = 0
                while machine.frames and steps < 601 and len(machine.frames) < 11:
                    machine.step()
                    steps += 1
                if machine.frames:
                    self.assertIn(self.most(led_on, run, edit, t), (600, 10))
                    self.assertIn(self.most(spoilt, run, edit, t), (600, 10))
                    continue
                told = led_on(run, edit, t)
                self.assertEqual(told, (tuple(machine.outputs), machine.result))
                unlike = [at for at in range(max(len(told[0]), len(own.outputs())))
                          if told[0][at:at + 1] != own.outputs()[at:at + 1]]
                if told[1] != own.result():
                    unlike.append(len(told[0]))
                self.assertEqual(spoilt(run, edit, t), unlike[0] if unlike else None)
                if goal(run, edit, t) is not None:
                    self.assertIsNone(spoilt(run, edit, t))
                    right += 1
                else:
                    wrong += bool(unlike)
        self.assertTrue(right > 100 and wrong > 50, (right, wrong))

    def test_just_six_hundred_steps(self):
        program = plain((("back", 0), ("set", "n", "sub", "n", 1), ("if", "n", 1), ("back", 2)))
        short = Edit(program, program, spots((0, 1)))
        long = Edit(program, program, spots((0, 2)))
        self.assertEqual(led_on(Run(program, (), [(0, 0, "n", 299)]), short, 0), ((), 2))
        self.assertEqual(led_on(Run(program, (), [(0, 0, "n", 299)]), long, 0), ((), 2))
        self.assertEqual(self.most(led_on, Run(program, (), [(0, 0, "n", 300)]), short, 0), 600)
        both = plain((("back", 0), ("set", "n", "sub", "n", 1), ("if", "n", 1), ("out", 1), ("back", 2)))
        run = Run(both, (), [(0, 0, "n", 299)])
        self.assertEqual(led_on(run, Edit(both, both, spots((0, 1))), 0), ((1,), 2))
        for function in (led_on, spoilt):
            self.assertEqual(self.most(function, run, Edit(both, both, spots((0, 2))), 0), 600)

    def test_too_deep(self):
        program = Program([("main", (), (("call", "x", "f", (0,)), ("back", "x"))),
                           ("f", ("p",), (("if", "p", 2), ("back", 0), ("call", "x", "f", (1,)), ("back", "x")))])
        edit = Edit(program, program, [*spots((0, 0)), (("f", 1), ("f", 2))])
        self.assertEqual(self.most(led_on, Run(program), edit, 2), 10)
        self.assertEqual(self.most(spoilt, Run(program), edit, 2), 10)
        self.assertIsNone(goal(Run(program), edit, 2))


class Papers(Told):
    def test_told(self):
        run = Run(OLD, [5])
        self.assertEqual(landing_paper(run, EDIT, 3), ("landed", 3, 4))
        self.assertEqual(landing_paper(run, EDIT, 5), ("landed", 5, 6))
        self.assertEqual(landing_paper(run, Edit(OLD, NEW, spots((0, 0))), 2), ("map", 2, 0))
        changed = Run(OLD, [5], [(3, 0, "x", 9)])
        self.assertEqual(landing_paper(changed, EDIT, 3), ("none", 3, [
            ("inputs",), ("row", 0), ("row", 0), ("row", 0), ("value", 0, "x"), ("outputs",), ("outputs",)]))
        self.assertEqual(landing_paper(changed, EDIT, 5), ("none", 5, [("outputs",)] * 7))
        silent = plain((("copy", "x", 3), ("back", "x")))
        self.assertEqual(landing_paper(Run(silent, (), [(1, 0, "x", 4)]), Edit.same(silent), 2),
                         ("none", 2, [("result",)] * 3))

    def test_the_first_frame_that_is_not_told(self):
        run = Run(DEEP_OLD)
        edit = Edit(DEEP_OLD, DEEP_NEW, [pair for pair in DEEP.pairs() if pair[0] != ("f", 1)])
        self.assertEqual(landing_paper(run, edit, 3), ("map", 3, 1))
        none = Edit(DEEP_OLD, DEEP_NEW, [])
        self.assertEqual(landing_paper(run, none, 3), ("map", 3, 0))
        self.assertIs(accepts_landing(run, none, ("map", 3, 0)), True)
        self.assertIs(accepts_landing(run, none, ("map", 3, 1)), True)
        self.likes_none([("map", 3, 2), ("map", 3, -1), ("map", 3, True), ("map", 3, 0.0), ("map", 3, None),
                         ("map", 7, 0), ("map", 8, 0), ("map", False, 0), ("none", 3, []), ("landed", 3, 4), ("none", 3, [("row", 0)] * 9)],
                        accepts_landing, run, none)
        self.likes_none([("map", 3, 0), ("map", 2, 1)], accepts_landing, run, edit)
        self.assertEqual(landing_paper(run, none, 7), ("landed", 7, 8))

    def test_frames_and_procedures(self):
        program = Program([
            ("main", (), (("if", "x", 3), ("call", "y", "f", ()), ("back", 0), ("call", "y", "g", ()), ("back", 0))),
            ("f", (), (("back", 1),)),
            ("g", (), (("back", 2),)),
        ])
        run = Run(program, (), [(0, 0, "x", 1)])
        edit = Edit(program, program, [*spots((3, 1), (4, 2)), *((spot, spot) for spot in program.spots()
                                                                 if spot not in (("main", 3), ("main", 4)))])
        paper = landing_paper(run, edit, 2)
        self.assertEqual(paper, ("none", 2, [("frames",), ("frames",), ("procedure", 1), ("frames",), ("result",)]))
        self.assertIs(accepts_landing(run, edit, paper), True)
        self.assertIs(accepts_landing(run, edit, (*paper[:2], tuple(paper[2]))), True)
        self.assertIs(accepts_landing(run, edit, ("none", 2, [("row", 0)] + paper[2][1:])), True)
        for reason in (("row", 1), ("procedure", 0), ("value", 0, "x"), ("frames",)):
            self.assertIs(accepts_landing(run, edit, ("none", 2, paper[2][:2] + [reason] + paper[2][3:])), False)

    def test_a_value_of_a_frame_beneath(self):
        run = Run(DEEP_OLD, (), [(3, 0, "k", 5)])
        paper = landing_paper(run, DEEP, 3)
        self.assertEqual(paper[2][4], ("value", 0, "k"))
        self.assertIs(accepts_landing(run, DEEP, paper), True)
        self.assertIs(accepts_landing(run, DEEP, ("none", 3, paper[2][:4] + [("value", 0, "r")] + paper[2][5:])), False)
        # Of moments of fewer frames a value is told of no frame that is on top in one of both alone.
        self.assertEqual(paper[2][2], ("frames",))
        self.assertIs(accepts_landing(run, DEEP, ("none", 3, paper[2][:2] + [("value", 0, "k")] + paper[2][3:])), False)

    def test_by_chance(self):
        kinds = {}
        for run, edit, own in edited_runs(1403, 60, 40):
            found = []
            for t in range(run.last() + 1):
                wanted = goals_anew(run, edit, own, t)
                self.assertLessEqual(len(wanted), 1)
                self.assertEqual(landed(run, edit, t), landed_anew(run, edit, t))
                self.assertEqual(goal(run, edit, t), wanted[0] if wanted else None)
                found += [(t, to) for to in wanted]
                paper = landing_paper(run, edit, t)
                kinds[paper[0]] = kinds.get(paper[0], 0) + 1
                self.assertIs(accepts_landing(run, edit, paper), True)
                for other in self.near(run, edit, own, t):
                    self.assertIs(accepts_landing(run, edit, other), self.is_right(run, edit, own, other), other)
                if paper[0] == "none":
                    state = landed_anew(run, edit, t)
                    self.assertEqual(paper[2], [reasons_anew(edit.new(), run.inputs(), state, own.state(u))[0]
                                                for u in range(own.last() + 1)])
            self.assertEqual(landings(run, edit), found)
            for t in range(run.last() + 1):
                self.assertEqual(next_landing(run, edit, t), min([pair for pair in found if pair[0] >= t], default=None))
        self.assertTrue(all(kinds[word] > 100 for word in ("landed", "map", "none")), kinds)

    def near(self, run, edit, own, t):
        papers = [("landed", t, to) for to in (0, t, own.last())] + [("map", t, n) for n in (0, 1)]
        state = landed_anew(run, edit, t)
        if state is not None:
            all_reasons = [reasons_anew(edit.new(), run.inputs(), state, own.state(u)) for u in range(own.last() + 1)]
            papers.append(("none", t, [(reasons or [("frames",)])[-1] for reasons in all_reasons]))
            papers.append(("none", t, [("row", 0)] * (own.last() + 1)))
        return papers

    def is_right(self, run, edit, own, paper):
        word, t, told = paper
        if word == "landed":
            return goals_anew(run, edit, own, t) == [told]
        if word == "map":
            return [frame[1:3] in dict(edit.pairs()) for frame in run.state(t)[1]][told:told + 1] == [False]
        state = landed_anew(run, edit, t)
        return all(reason in reasons_anew(edit.new(), run.inputs(), state, own.state(u))
                   for u, reason in enumerate(told))

    def test_what_is_no_paper(self):
        run = Run(OLD, [5], [(3, 0, "x", 9)])
        right = landing_paper(run, EDIT, 3)
        rows = right[2]
        self.assertIs(accepts_landing(run, EDIT, right), True)
        self.assertIs(accepts_landing(run, EDIT, ("landed", 2, 2)), True)
        self.likes_none(odd_values() + [
            list(right), ("None", 3, rows), ("none", 3), (*right, 1), ("none", 3, rows[:-1]), ("none", 3, rows + rows[-1:]),
            ("none", True, rows), ("none", 6, rows), ("none", -1, rows), ("none", 2, rows), ("none", 3, None),
            ("none", 3, {}), ("none", 3, "abcdefg"), ("none", 3, [None] + rows[1:]), ("none", 3, [["inputs"]] + rows[1:]),
            ("none", 3, rows[:1] + [("row", False)] + rows[2:]), ("none", 3, rows[:1] + [("row", 0, 0)] + rows[2:]),
            ("none", 3, rows[:1] + [["row", 0]] + rows[2:]), ("none", 3, [Odd()] * 7), (Odd(), 3, rows),
            ("none", Odd(), rows), ("none", 3, Odd()), ("none", 3, rows[:4] + [("value", 0, "y")] + rows[5:]),
            ("none", 3, rows[:4] + [("value", 0, Odd())] + rows[5:]), ("landed", 3, 4), ("landed", 3, None),
            ("landed", 2, 2.0), ("landed", 1, True), ("landed", 2, 3), ("landed", 2, 7), ("landed", 2, -5),
            ("landed", 6, 6), ("landed", 2, Odd()), ("map", 2, 0)], accepts_landing, run, EDIT)


class Maps(Told):
    def test_maps(self):
        run = Run(OLD, [5])
        # A row may be done again, as long as what it reads is there.
        self.assertEqual([maps_for(run, NEW, t) for t in range(6)], [
            [(0, spots((0, 0)))], [(1, spots((1, 1)))], [(1, spots((2, 1))), (2, spots((2, 2)))],
            [(2, spots((3, 2))), (3, spots((3, 3))), (4, spots((3, 4)))], [(5, spots((4, 5)))], [(6, [])]])
        self.assertEqual(maps_for(Run(OLD, [5], [(4, 0, "x", 9)]), NEW, 5), [])

    def test_in_frames(self):
        run = Run(DEEP_OLD)
        self.assertEqual(maps_for(run, DEEP_NEW, 3), [
            (3, [*spots((1, 2)), (("f", 1), ("f", 0))]), (4, [*spots((1, 2)), (("f", 1), ("f", 1))])])

    def test_several_goals(self):
        loop = plain((("copy", "y", 0), ("copy", "z", 0), ("copy", "y", 0), ("back", 4)))
        self.assertEqual(maps_for(Run(loop), loop, 1), [(to, spots((1, to))) for to in range(4)])

    def test_each_spot_once(self):
        # f calls itself by row 2; the other one calls itself by row 2 first, and then by row 3.
        program = Program([("main", (), (("call", "x", "f", (2,)), ("back", 0))),
                           ("f", ("p",), (("if", "p", 2), ("back", 0), ("call", "q", "f", (0,)), ("back", 0)))])
        other = Program([("main", (), (("call", "x", "f", (2,)), ("back", 0))),
                         ("f", ("p",), (("if", "p", 3), ("back", 0), ("call", "q", "f", (0,)),
                                        ("call", "q", "f", (0,)), ("back", 0)))])
        run = Run(program, (), [(3, 3, "p", 1)])
        self.assertEqual([frame[2] for frame in run.state(5)[1]], [0, 2, 2, 0])
        self.assertEqual(maps_for(run, other, 5), [])
        self.assertEqual(maps_for(Run(program), other, 3),
                         [(3 + to, [*spots((0, 0)), (("f", 0), ("f", to)), (("f", 2), ("f", 3))]) for to in (0, 1)])

    def test_names(self):
        self.assertEqual(self.told(NoEdit, maps_for, Run(OLD), DEEP_NEW, 4), "names")

    def test_by_chance(self):
        several = 0
        for run, edit, own in edited_runs(1404, 40, 30):
            program = edit.new()
            for t in range(run.last() + 1):
                wanted = []
                for to in range(own.last() + 1):
                    frames, others = run.state(t)[1], own.state(to)[1]
                    pairs = {(frame[1:3], other[1:3]) for frame, other in zip(frames, others)}
                    if len(frames) != len(others) or len(dict(pairs)) != len(pairs):
                        continue
                    try:
                        one = Edit(run.program(), program, list(pairs))
                    except NoEdit:
                        continue
                    if goals_anew(run, one, own, t) == [to]:
                        wanted.append((to, one.pairs()))
                self.assertEqual(maps_for(run, program, t), wanted)
                several += len(wanted) > 1
        self.assertGreater(several, 20)

    def test_errors(self):
        run = Run(OLD, [5])
        self.refuses_all(NoRun, odd_values(), maps_for, behind=(None, None))
        self.refuses_all(NoProgram, odd_values(), maps_for, run, behind=(None,))
        self.assertEqual(self.told(NoEdit, maps_for, run, CALLER, None), "names")
        self.refuses_all(NoMoment, odd_values() + [6], maps_for, run, ENDLESS)
        self.assertEqual(self.most(maps_for, run, ENDLESS, 1), 600)


class Errors(Told):
    def test_order(self):
        run = Run(OLD, [5])
        wrong = Edit.same(NEW)
        for function, behind in ((landed, ()), (goal, ()), (next_landing, ()), (gone_behind, ()), (led_on, ()),
                                 (spoilt, ()), (landing_paper, ())):
            self.refuses_all(NoRun, odd_values(), function, behind=(None, None, *behind))
            self.refuses_all(NoEdit, odd_values() + [wrong, NEW], function, run, behind=(None, *behind))
            self.refuses_all(NoMoment, odd_values() + [6], function, run, Edit(OLD, ENDLESS, []), *behind)
        for function, behind in ((landings, ()), (accepts_landing, (None,))):
            self.refuses_all(NoRun, odd_values(), function, behind=(None, *behind))
            self.refuses_all(NoEdit, odd_values() + [wrong, NEW], function, run, behind=behind)

    def test_what_the_own_run_raises(self):
        run = Run(OLD, [5])
        edit = Edit(OLD, ENDLESS, spots((0, 0), (3, 3)))
        for function, behind in ((goal, (1,)), (next_landing, (1,)), (gone_behind, (1,)), (spoilt, (1,)),
                                 (landing_paper, (1,)), (landings, ()), (accepts_landing, (None,)),
                                 (accepts_landing, (("map", 1, 0),))):
            self.assertEqual(self.most(function, run, edit, *behind), 600)
        self.assertIsNone(landed(run, edit, 1))
        self.assertEqual(led_on(run, edit, 3), ((2,), 12))
        self.assertEqual(self.told(NoLanding, led_on, run, edit, 1), 1)
        self.assertEqual(self.told(NoCell, goal, run, edit, 1, [(0, "z")]), [(0, "z")])
        self.assertEqual(self.told(NoLanding, gone_behind, run, Edit(OLD, NEW, []), 1), 1)
        self.assertIsNone(landed(Run(COUNTDOWN, [1]), Edit(COUNTDOWN, COUNTDOWN, []), 0))


if __name__ == "__main__":
    unittest.main()
