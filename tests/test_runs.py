"""Promises [3] and [11]: runs, their states, and their changes; and [0.2] (a)."""

import unittest

from plainmoment.errors import NoCell, NoChanges, NoInputs, NoMoment, NoProgram, TooMany
from plainmoment.programs import Program
from plainmoment.runs import Run
from plainmoment.states import first_state, next_state
from tests.samples import (CALLER, COUNTDOWN, DEEP, Machine, Odd, changed_run, chance_of, odd_values, plain,
                           procedures_of, random_inputs, random_program, random_run)

LOOP = plain((("set", "n", "add", "n", 1), ("go", 0)))


def waiting(many):
    """A program that does so many steps, up to 600, ahead of its end, of which three are always done."""
    rows = [("set", "n", "add", "n", 1), ("set", "r", "less", "n", many), ("if", "r", 0), ("back", "n")]
    return plain(rows)


def exactly(steps):
    """A program whose run has just so many steps; steps are above 10."""
    rounds, rest = divmod(steps - 1, 3)
    rows = [("set", "n", "add", "n", 1), ("set", "r", "less", "n", rounds), ("if", "r", 0)]
    return plain(rows + [("out", "n")] * rest + [("back", "n")])


class RunsTest(unittest.TestCase):
    def told_by(self, error, *arguments):
        with self.assertRaises(error) as caught:
            Run(*arguments)
        return caught.exception


class Ordinary(RunsTest):
    def test_a_run(self):
        run = Run(COUNTDOWN, [2])
        self.assertEqual(run.last(), 12)
        self.assertEqual(len(run), 12)
        self.assertEqual(run.state(0), (0, ((0, "main", 0, ()),), 0, (), None))
        self.assertEqual(run.state(1), (1, ((0, "main", 1, (("n", 2),)),), 1, (), None))
        self.assertEqual(run.state(12), (12, (), 1, (), 3))
        self.assertEqual(run.result(), 3)
        self.assertEqual(run.outputs(), ())
        self.assertEqual([run.spot_at(t)[1] for t in range(12)], [0, 1, 2, 4, 5, 6, 2, 4, 5, 6, 2, 3])
        self.assertEqual(run.program(), COUNTDOWN)
        self.assertEqual(run.inputs(), (2,))
        self.assertEqual(run.changes(), ())

    def test_calls(self):
        run = Run(CALLER, (4,))
        self.assertEqual(run.outputs(), (8,))
        self.assertEqual(run.result(), 7)
        self.assertEqual(run.spot_at(2), ("dbl", 0))
        self.assertEqual(run.state(2)[1], ((0, "main", 1, (("x", 4),)), (2, "dbl", 0, (("p", 4),))))
        self.assertEqual(run.cell_at(2, (2, "p")), 4)
        self.assertEqual(run.cell_at(2, (0, "x")), 4)
        self.assertEqual(run.cell_at(2, (0, "z")), 0)
        self.assertEqual(run.cell_at(t=3, cell=(2, "p")), 8)
        self.assertIs(type(run.outputs()), tuple)

    def test_names_of_arguments_and_defaults(self):
        self.assertEqual(Run(CALLER), Run(program=CALLER, inputs=[], changes=[]))
        self.assertEqual(Run(CALLER, changes=((0, 0, "x", 1),)).changes(), ((0, 0, "x", 1),))
        self.assertEqual(Run(COUNTDOWN).result(), 0)

    def test_all_states_follow_one_another(self):
        for seed in range(60):
            run = random_run(chance_of(seed))
            state = first_state(run.program())
            for t in range(run.last()):
                self.assertEqual(run.state(t), state)
                self.assertEqual(run.ahead(t), state)
                self.assertEqual(run.spot_at(t), state[1][-1][1:3])
                state = next_state(run.program(), run.inputs(), state)
            self.assertEqual(run.state(run.last()), state)
            self.assertEqual((run.outputs(), run.result()), state[3:])

    def test_all_states_are_as_the_rows_and_changes_make_them(self):
        for seed in range(150):
            run = changed_run(chance_of(seed))
            machine = Machine(procedures_of(run.program()), run.inputs())
            for t in range(run.last() + 1):
                self.assertEqual(run.ahead(t), machine.shown())
                for moment, born, variable, value in run.changes():
                    if moment == t:
                        machine.change(born, variable, value)
                self.assertEqual(run.state(t), machine.shown())
                if t < run.last():
                    machine.step()
            self.assertEqual(run.result(), machine.result)


class Limits(RunsTest):
    def test_just_600_steps(self):
        for steps in (11, 12, 13, 599, 600):
            run = Run(exactly(steps))
            self.assertEqual((run.last(), len(run)), (steps, steps))
        self.assertEqual(Run(exactly(600)).state(600)[0], 600)

    def test_one_more(self):
        for steps in (601, 602, 603):
            self.assertEqual(self.told_by(TooMany, exactly(steps)).most, 600)
        self.assertEqual(self.told_by(TooMany, LOOP).most, 600)

    def test_ten_frames_and_one_more(self):
        self.assertEqual(Run(DEEP, [8]).result(), 7)
        self.assertEqual(max(len(Run(DEEP, [8]).state(t)[1]) for t in range(30)), 10)
        self.assertEqual(self.told_by(TooMany, DEEP, [9]).most, 10)

    def calling(self, steps):
        """A call that comes after so many steps and puts frames without end; steps are above 10."""
        rows = exactly(steps + 1).procedure("main")[2][:-1]
        return Program([("main", (), rows + (("call", "x", "f", ()), ("back", "x"))),
                        ("f", (), (("call", "x", "f", ()), ("back", "x")))])

    def test_whichever_comes_first(self):
        for steps, most in ((20, 10), (589, 10), (590, 10), (591, 600), (592, 600), (600, 600)):
            self.assertEqual(self.told_by(TooMany, self.calling(steps)).most, most, steps)

    def test_a_change_can_lead_to_and_out_of_the_limits(self):
        self.assertEqual(self.told_by(TooMany, DEEP, [1], [(1, 0, "n", 50)]).most, 10)
        self.assertEqual(Run(DEEP, [50], [(1, 0, "n", 0)]).result(), 7)
        self.assertEqual(Run(waiting(9000), (), [(30, 0, "n", 9500)]).last(), 34)
        self.assertEqual(self.told_by(TooMany, waiting(9000)).most, 600)

    def test_wrong_changes_ahead_of_the_limits(self):
        self.assertEqual(self.told_by(NoChanges, LOOP, (), [(600, 0, "zz", 1)]).told, 0)
        self.assertEqual(self.told_by(NoChanges, LOOP, (), [(600, 1, "n", 1)]).told, 0)
        self.assertEqual(self.told_by(NoChanges, LOOP, (), [(3, 0, "n", 1), (40, 0, "r", 1)]).told, 1)
        self.assertEqual(self.told_by(TooMany, LOOP, (), [(600, 0, "n", 1)]).most, 600)
        self.assertEqual(self.told_by(TooMany, DEEP, [9], [(600, 0, "n", 1)]).most, 10)
        self.assertEqual(self.told_by(TooMany, DEEP, [9], [(40, 9, "zz", 1)]).most, 10)
        self.assertEqual(self.told_by(NoChanges, DEEP, [9], [(5, 9, "zz", 1)]).told, 0)
        self.assertEqual(self.told_by(NoChanges, LOOP, (), [(601, 0, "n", 1)]).told, 0)


class Changes(RunsTest):
    def test_states_at_and_ahead_of_changes(self):
        run = Run(COUNTDOWN, [2], [(1, 0, "n", 1), (1, 0, "s", 9), (2, 0, "s", 5), (7, 0, "s", 4)])
        self.assertEqual(run.ahead(1), (1, ((0, "main", 1, (("n", 2),)),), 1, (), None))
        self.assertEqual(run.state(1), (1, ((0, "main", 1, (("n", 1), ("s", 9))),), 1, (), None))
        self.assertEqual(run.ahead(2)[1][0][3], (("n", 1),))
        self.assertEqual(run.state(2)[1][0][3], (("n", 1), ("s", 5)))
        self.assertEqual(run.result(), 4)
        self.assertEqual(run.cell_at(2, (0, "s")), 5)

    def test_at_moment_0(self):
        run = Run(CALLER, [4], [(0, 0, "y", 3)])
        self.assertEqual(run.ahead(0), first_state(CALLER))
        self.assertEqual(run.state(0), (0, ((0, "main", 0, (("y", 3),)),), 0, (), None))

    def test_several_of_one_cell_and_moment(self):
        run = Run(CALLER, [4], [(1, 0, "x", 7), (1, 0, "x", 0), (1, 0, "x", 5)])
        self.assertEqual(run.outputs(), (10,))
        self.assertEqual(run.state(1)[1][0][3], (("x", 5),))

    def test_of_a_frame_beneath(self):
        run = Run(CALLER, [4], [(3, 0, "x", 6), (3, 2, "p", 1)])
        self.assertEqual(run.outputs(), (1,))
        self.assertEqual(run.result(), 9)

    def test_just_eight(self):
        eight = [(1, 0, "x", value) for value in range(8)]
        self.assertEqual(Run(CALLER, [4], eight).outputs(), (14,))
        self.assertIsNone(self.told_by(NoChanges, CALLER, [4], eight + [(1, 0, "x", 9)]).told)
        self.assertIsNone(self.told_by(NoChanges, CALLER, [4], [Odd()] * 9).told)

    def test_no_list_and_no_tuple(self):
        for value in odd_values():
            if not isinstance(value, (list, tuple)):
                self.assertIsNone(self.told_by(NoChanges, CALLER, [4], value).told)

    def test_wrong_by_form(self):
        right = (1, 0, "x", 5)
        wrong = odd_values() + [
            [1, 0, "x", 5], right[:3], right + (1,), (-1, 0, "x", 5), (601, 0, "x", 5), (True, 0, "x", 5),
            (1, -1, "x", 5), (1, 601, "x", 5), (1, False, "x", 5), (1, 0, "X", 5), (1, 0, 0, 5), (1, 0, "abcde", 5),
            (1, 0, "x", 9973), (1, 0, "x", -1), (1, 0, "x", True), (1.0, 0, "x", 5), (1, 0, "x", None),
            (Odd(), 0, "x", 5), (1, Odd(), "x", 5), (1, 0, Odd(), 5), (1, 0, "x", Odd())]
        for value in wrong:
            self.assertEqual(self.told_by(NoChanges, CALLER, [4], [value]).told, 0)
            self.assertEqual(self.told_by(NoChanges, CALLER, [4], (right, right, value, value)).told, 2)
            self.assertEqual(self.told_by(NoChanges, CALLER, [4], [(1, 9, "x", 5), value]).told, 1)

    def test_moments_never_fall(self):
        self.assertEqual(self.told_by(NoChanges, CALLER, [4], [(1, 0, "x", 5), (0, 0, "x", 5)]).told, 1)
        changes = [(1, 0, "x", 5), (3, 0, "x", 5), (2, 0, "x", 5), (0, 0, "x", 5)]
        self.assertEqual(self.told_by(NoChanges, CALLER, [4], changes).told, 2)
        self.assertEqual(self.told_by(NoChanges, CALLER, [4], [(2, 9, "q", 5), (1, 0, "x", 5)]).told, 1)
        self.assertEqual(self.told_by(NoChanges, CALLER, [4], [(2, 0, "q", 5), (1, 0, "x", 5)]).told, 1)
        self.assertEqual(len(Run(CALLER, [4], [(7, 6, "p", 5), (8, 0, "x", 5)]).changes()), 2)

    def test_cells_that_do_not_stand(self):
        for change in ((1, 1, "x", 5), (1, 0, "p", 5), (1, 2, "p", 5), (2, 2, "x", 5), (4, 2, "p", 5), (2, 0, "p", 5)):
            self.assertEqual(self.told_by(NoChanges, CALLER, [4], [change]).told, 0)
            self.assertEqual(self.told_by(NoChanges, CALLER, [4], [(0, 0, "x", 1), change]).told, 1)
        Run(CALLER, [4], [(2, 2, "p", 5), (3, 2, "p", 5)])

    def test_at_the_end_and_above_it(self):
        last = Run(COUNTDOWN, [2]).last()
        Run(COUNTDOWN, [2], [(last - 1, 0, "s", 1)])
        self.assertEqual(self.told_by(NoChanges, COUNTDOWN, [2], [(last, 0, "s", 1)]).told, 0)
        self.assertEqual(self.told_by(NoChanges, COUNTDOWN, [2], [(last + 1, 0, "s", 1)]).told, 0)
        changes = [(0, 0, "s", 1), (last + 1, 9, "zz", 1), (600, 0, "s", 1)]
        self.assertEqual(self.told_by(NoChanges, COUNTDOWN, [2], changes).told, 1)
        self.assertEqual(self.told_by(NoChanges, COUNTDOWN, [2], [(2, 0, "n", 0), (last, 0, "s", 1)]).told, 1)
        at_end = [(2, 0, "n", 0), (4, 0, "s", 1), (5, 0, "s", 1)]
        self.assertEqual(self.told_by(NoChanges, COUNTDOWN, [2], at_end).told, 1)


class Asking(RunsTest):
    def test_what_is_refused_first(self):
        for value in odd_values():
            self.assertIs(self.told_by(NoProgram, value, value, value).told, value)
        for value in (None, [True], [9973], [1] * 13, (1.0,), {}, Odd(), [Odd()], "x", 0, False):
            self.assertIs(self.told_by(NoInputs, CALLER, value, 5).told, value)
        self.assertIs(self.told_by(NoProgram, procedures_of(CALLER)).told.__class__, list)

    def test_moments(self):
        run = Run(CALLER, [4])
        for value in [*odd_values(), 10 ** 9, run.last() + 1]:
            for asked in (run.state, run.ahead, run.spot_at):
                with self.assertRaises(NoMoment) as caught:
                    asked(value)
                self.assertIs(caught.exception.told, value)
            with self.assertRaises(NoMoment) as caught:
                run.cell_at(value, value)
            self.assertIs(caught.exception.told, value)
        run.state(run.last())
        run.ahead(t=run.last())
        with self.assertRaises(NoMoment) as caught:
            run.spot_at(run.last())
        self.assertEqual(caught.exception.told, run.last())
        run.spot_at(t=run.last() - 1)

    def test_cells(self):
        run = Run(CALLER, [4])
        wrong = odd_values() + [(0, "p"), (2, "x"), (1, "x"), [0, "x"], (False, "x"), (0.0, "x"), ("x", 0), (0, "x", 1),
                                (0, Odd())]
        for value in wrong:
            for t in (0, 2, run.last()):
                with self.assertRaises(NoCell) as caught:
                    run.cell_at(t, value)
                self.assertIs(caught.exception.told, value)
        with self.assertRaises(NoCell):
            run.cell_at(run.last(), (0, "x"))

    def test_equal_runs(self):
        run = Run(CALLER, [4], [(1, 0, "x", 5)])
        self.assertTrue(run == Run(CALLER, (4,), ((1, 0, "x", 5),)))
        self.assertFalse(run != Run(Program(procedures_of(CALLER)), (4,), ((1, 0, "x", 5),)))
        for other in (Run(CALLER, [4]), Run(CALLER, [5], [(1, 0, "x", 5)]), Run(CALLER, [4, 0], [(1, 0, "x", 5)]),
                      Run(CALLER, [4], [(1, 0, "x", 6)]), Run(CALLER, [4], [(1, 0, "x", 5), (1, 0, "x", 5)]),
                      Run(COUNTDOWN, [4]), CALLER, (CALLER, (4,)), None, 4, object()):
            self.assertFalse(run == other)
            self.assertTrue(run != other)
        self.assertFalse(Run(plain((("back", 1),))) == Run(plain((("back", 2),))))

    def test_copies(self):
        inputs, changes, procedures = [4], [(1, 0, "x", 5)], procedures_of(CALLER)
        run = Run(Program(procedures), inputs, changes)
        states = [run.state(t) for t in range(run.last() + 1)]
        inputs[0] = 9
        inputs.append(1)
        changes.clear()
        procedures.clear()
        self.assertEqual(run.inputs(), (4,))
        self.assertEqual(run.changes(), ((1, 0, "x", 5),))
        self.assertEqual(run.program(), CALLER)
        self.assertEqual([run.state(t) for t in range(run.last() + 1)], states)
        self.assertEqual(run, Run(CALLER, [4], [(1, 0, "x", 5)]))

    def test_later_states_hang_on_a_state_the_inputs_and_the_changes_left(self):
        for seed in range(40):
            run = changed_run(chance_of(seed + 1000))
            state = run.state(0)
            for t in range(run.last()):
                ahead = next_state(run.program(), run.inputs(), state)
                self.assertEqual(ahead, run.ahead(t + 1))
                state = run.state(t + 1)

    def test_runs_by_chance_keep_to_the_limits(self):
        for seed in range(200):
            chance = chance_of(seed)
            program, inputs = random_program(chance), random_inputs(chance)
            try:
                run = Run(program, inputs)
            except TooMany as error:
                self.assertIn(error.most, (10, 600))
                continue
            self.assertLessEqual(run.last(), 600)
            self.assertTrue(all(len(run.state(t)[1]) <= 10 for t in range(run.last())))


if __name__ == "__main__":
    unittest.main()
