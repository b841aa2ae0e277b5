"""Promise [3]: the form of states, the first one, steps and cells."""

import unittest

from plainmoment.errors import NoInputs, NoProgram, NoState, TooMany
from plainmoment.programs import Program
from plainmoment.states import cell_in, first_state, is_state, next_state
from tests.samples import (CALLER, COUNTDOWN, DEEP, Machine, Odd, chance_of, odd_values, plain, procedures_of,
                           random_inputs, random_program)

STATE = (9, ((0, "main", 3, (("x", 5),)), (7, "sum", 4, (("p", 6), ("q", 2))), (9, "sum", 0, (("p", 1),))), 1, (10,),
         None)
ENDED = (9, (), 1, (10, 0), 4)


def replaced(state, at, value):
    return state[:at] + (value,) + state[at + 1:]


def framed(*frames, moment=20):
    return (moment, frames, 0, (), None)


def deep_frames(many):
    return ((0, "main", 1, ()),) + tuple((k, "f", 3, ()) for k in range(1, many))


class FormOfStates(unittest.TestCase):
    def right(self, state, program=CALLER):
        self.assertIs(is_state(program, state), True, state)

    def wrong(self, state, program=CALLER):
        self.assertIs(is_state(program, state), False)

    def test_no_program(self):
        for value in [*odd_values(), procedures_of(CALLER)]:
            with self.assertRaises(NoProgram) as caught:
                is_state(value, STATE)
            self.assertIs(caught.exception.told, value)

    def test_ordinary_ones(self):
        self.right(STATE)
        self.right(ENDED)
        self.assertIs(is_state(value=STATE, program=CALLER), True)

    def test_any_value(self):
        for value in odd_values():
            self.wrong(value)
            for at in (0, 2):
                self.wrong(replaced(STATE, at, value))
                self.wrong(replaced(ENDED, at, value))
            if value is not None:
                self.wrong(replaced(STATE, 4, value))
            self.wrong(replaced(ENDED, 4, value))
            if not isinstance(value, tuple):
                self.wrong(replaced(STATE, 1, value))
                self.wrong(replaced(STATE, 3, value))
            self.wrong(replaced(STATE, 1, (value,)))
            self.wrong(replaced(STATE, 3, (value,)))
        self.wrong(list(STATE))
        self.wrong(STATE[:4])
        self.wrong(STATE + (None,))

    def test_moment_and_asked(self):
        for moment, asked, right in ((600, 600, True), (601, 600, False), (600, 601, False), (9, 9, True),
                                     (9, 10, False), (9, -1, False), (9, 0, True), (9, True, False),
                                     (9, False, False), (9, 1.0, False), (9.0, 1, False)):
            for state in (STATE, ENDED):
                self.assertIs(is_state(CALLER, (moment, state[1], asked, *state[3:])), right)
        self.right((0, (), 0, (), 0))
        self.wrong((True, ((0, "main", 0, ()),), 0, (), None))
        self.wrong((False, ((0, "main", 0, ()),), 0, (), None))
        self.wrong((-1, ((0, "main", 0, ()),), 0, (), None))

    def test_result(self):
        for result, right in ((0, True), (9972, True), (9973, False), (-1, False), (None, False), (True, False)):
            self.assertIs(is_state(CALLER, replaced(ENDED, 4, result)), right)
        for result in (0, 5, False):
            self.wrong(replaced(STATE, 4, result))

    def test_outputs(self):
        self.right(replaced(STATE, 3, ()))
        self.right(replaced(STATE, 3, (0, 9972) * 400))
        for outputs in ([10], (9973,), (-1,), (1, True), (False,), (None,), (1.0,), ("x",), 10, None, (Odd(),)):
            self.wrong(replaced(STATE, 3, outputs))
            self.wrong(replaced(ENDED, 3, outputs))

    def test_numbers_of_frames(self):
        self.right(framed((0, "main", 0, ()), moment=0), DEEP)
        for many in range(1, 11):
            self.right(framed(*deep_frames(many)), DEEP)
        self.wrong(framed(*deep_frames(11)), DEEP)
        self.wrong(replaced(STATE, 1, list(STATE[1])))
        self.wrong(replaced(ENDED, 1, []))
        self.wrong(replaced(STATE, 1, STATE[1][0]))

    def test_bottom_frame(self):
        self.wrong(framed((1, "main", 0, ())))
        self.wrong(framed((False, "main", 0, ())))
        self.wrong(framed((0, "dbl", 0, ())))
        self.wrong(framed((0, "main", 1, ()), (2, "main", 0, ())))

    def test_borns(self):
        def told(one, other, moment):
            return framed((0, "main", 3, ()), (one, "sum", 4, ()), (other, "sum", 0, ()), moment=moment)

        self.right(told(1, 2, 2))
        self.right(told(1, 600, 600))
        for one, other, moment in ((0, 2, 2), (2, 2, 2), (2, 1, 2), (1, 3, 2), (-1, 2, 2), (True, 2, 2), (1, 2.0, 2)):
            self.wrong(told(one, other, moment))

    def test_callers_stand_at_a_call_of_the_procedure(self):
        for index, name, right in ((1, "dbl", True), (3, "sum", True), (1, "sum", False), (3, "dbl", False),
                                   (0, "dbl", False), (2, "dbl", False), (4, "sum", False)):
            self.assertIs(is_state(CALLER, framed((0, "main", index, ()), (4, name, 0, ()))), right)

    def test_rows(self):
        for index, right in ((0, True), (4, True), (5, False), (-1, False), (True, False), (None, False), ("x", False)):
            self.assertIs(is_state(CALLER, framed((0, "main", index, ()))), right)
        self.wrong(framed((0, "no", 0, ())))
        self.wrong(framed((0, "main", 0)))
        self.wrong(framed((0, "main", 0, (), ())))
        self.wrong(framed([0, "main", 0, ()]))
        self.wrong(framed((0, Odd(), 0, ())))
        self.wrong(framed((0, [], 0, ())))
        self.wrong(framed(Odd()))

    def test_values(self):
        for values, right in (
                ((("x", 1),), True), ((("x", 9972), ("y", 1), ("z", 3)), True), ((), True),
                ((("x", 0),), False), ((("x", 9973),), False), ((("x", -1),), False), ((("x", True),), False),
                ((("x", None),), False), ((("y", 1), ("x", 1)), False), ((("x", 1), ("x", 1)), False),
                ((("x", 1), ("x", 2)), False), ((("p", 1),), False), ((("X", 1),), False), ((["x", 1],), False),
                ([("x", 1)], False), ((("x",),), False), ((("x", 1, 1),), False), (("x", 1), False), ({"x": 1}, False),
                (((1, 1),), False), (((Odd(), 1),), False), ((("x", Odd()),), False), (None, False), (Odd(), False)):
            self.assertIs(is_state(CALLER, framed((0, "main", 0, values))), right)


class Steps(unittest.TestCase):
    def led(self, rows, values, inputs=(), asked=0, index=0):
        before = (7, ((0, "main", index, values),), asked, (3,), None)
        program = Program([("main", (), tuple(rows)), ("f", ("p", "q"), (("back", "p"),)), ("g", (), (("go", 0),))])
        self.assertTrue(is_state(program, before))
        behind = next_state(program, inputs, before)
        self.assertTrue(is_state(program, behind))
        self.assertEqual(before, (7, ((0, "main", index, values),), asked, (3,), None))
        return behind

    def test_first_state(self):
        self.assertEqual(first_state(CALLER), (0, ((0, "main", 0, ()),), 0, (), None))
        other = Program([("zz", (), (("back", 0),)), ("aa", (), (("back", 0),))])
        self.assertEqual(first_state(program=other), (0, ((0, "zz", 0, ()),), 0, (), None))
        for value in odd_values():
            with self.assertRaises(NoProgram) as caught:
                first_state(value)
            self.assertIs(caught.exception.told, value)

    def test_set_copy_out(self):
        end = ("back", 0)
        cases = (
            (("set", "x", "sub", "y", "x"), (("x", 5), ("y", 2)), (("x", 9970), ("y", 2))),
            (("set", "x", "sub", "x", 5), (("x", 5),), ()),
            (("set", "b", "add", "y", 1), (("y", 2),), (("b", 3), ("y", 2))),
            (("set", "x", "less", "x", "y"), (("y", 1),), (("x", 1), ("y", 1))),
            (("set", "x", "mul", 100, 100), (), (("x", 27),)),
            (("copy", "x", "y"), (("y", 4),), (("x", 4), ("y", 4))),
            (("copy", "x", "z"), (("x", 4),), ()),
            (("copy", "x", 0), (("x", 4),), ()),
            (("copy", "x", "x"), (("x", 4),), (("x", 4),)),
        )
        for row, values, behind in cases:
            rows = (row, ("copy", "y", "x"), ("copy", "z", "b"), end)
            self.assertEqual(self.led(rows, values), (8, ((0, "main", 1, behind),), 0, (3,), None))
        for operand, told in (("x", 6), ("y", 0), (9972, 9972)):
            rows = (("out", operand), ("out", "x"), ("out", "y"), end)
            self.assertEqual(self.led(rows, (("x", 6),)), (8, ((0, "main", 1, (("x", 6),)),), 0, (3, told), None))

    def test_get_also_beyond_the_last_input(self):
        rows = (("get", "x"), ("back", "x"))
        for inputs, asked, told in (([4, 0, 6], 0, (("x", 4),)), ((4, 0, 6), 2, (("x", 6),)), ([4, 0], 1, ()),
                                    ([4], 1, ()), ([4], 7, ()), ([], 0, ())):
            self.assertEqual(self.led(rows, (("x", 9),), inputs, asked),
                             (8, ((0, "main", 1, told),), asked + 1, (3,), None))

    def test_if_and_go(self):
        for operand, behind in (("x", 3), ("y", 1), (0, 1), (1, 3), (9972, 3)):
            rows = (("if", operand, 3), ("out", "x"), ("out", "y"), ("back", 0))
            self.assertEqual(self.led(rows, (("x", 1),)), (8, ((0, "main", behind, (("x", 1),)),), 0, (3,), None))
        self.assertEqual(self.led((("back", 0), ("go", 1)), (), index=1), (8, ((0, "main", 1, ()),), 0, (3,), None))
        self.assertEqual(self.led((("back", 0), ("go", 0)), (), index=1), (8, ((0, "main", 0, ()),), 0, (3,), None))

    def test_call(self):
        rows = (("call", "x", "f", ("y", "x")), ("out", "y"), ("back", 0))
        self.assertEqual(self.led(rows, (("x", 4), ("y", 5))),
                         (8, ((0, "main", 0, (("x", 4), ("y", 5))), (8, "f", 0, (("p", 5), ("q", 4)))), 0, (3,), None))
        rows = (("call", "x", "f", (0, 7)), ("back", 0))
        self.assertEqual(self.led(rows, ()), (8, ((0, "main", 0, ()), (8, "f", 0, (("q", 7),))), 0, (3,), None))
        rows = (("call", "x", "g", ()), ("back", 0))
        self.assertEqual(self.led(rows, ()), (8, ((0, "main", 0, ()), (8, "g", 0, ())), 0, (3,), None))

    def test_back(self):
        before = (7, ((0, "main", 3, (("x", 4), ("z", 9))), (5, "sum", 1, (("p", 6),))), 1, (8,), None)
        self.assertEqual(next_state(CALLER, (), before), (8, ((0, "main", 4, (("x", 4), ("z", 6))),), 1, (8,), None))
        before = (7, ((0, "main", 3, (("x", 4), ("z", 9))), (5, "sum", 5, (("p", 6),))), 1, (8,), None)
        self.assertEqual(next_state(CALLER, (), before), (8, ((0, "main", 4, (("x", 4),)),), 1, (8,), None))

    def test_back_of_the_bottom_frame(self):
        for operand, told in (("x", 5), ("y", 0), (9972, 9972)):
            rows = (("back", operand), ("set", "x", "add", "x", "y"), ("back", 0))
            self.assertEqual(self.led(rows, (("x", 5),), (), 2), (8, (), 2, (3,), told))

    def test_too_many_frames(self):
        frames = deep_frames(9) + ((9, "f", 3, (("m", 2),)),)
        with self.assertRaises(TooMany) as caught:
            next_state(DEEP, [], framed(*frames))
        self.assertEqual(caught.exception.most, 10)
        behind = next_state(DEEP, [], framed(*frames[:9]))
        self.assertEqual(behind[1], frames[:9] + ((21, "f", 0, ()),))
        behind = next_state(DEEP, [], framed(*frames[:9], (9, "f", 1, ())))
        self.assertEqual(behind[1], frames[:8] + ((8, "f", 4, (("x", 7),)),))

    def test_from_moment_600(self):
        before = (600, ((0, "main", 0, ()),), 600, (), None)
        self.assertEqual(next_state(CALLER, [], before), (601, ((0, "main", 1, ()),), 601, (), None))
        frames = deep_frames(3)
        self.assertEqual(next_state(DEEP, [], framed(*frames, moment=600))[1][-1], (601, "f", 0, ()))
        with self.assertRaises(NoState):
            next_state(CALLER, [], (601, ((0, "main", 1, ()),), 600, (), None))

    def test_what_next_state_refuses(self):
        self.assertEqual(next_state(state=first_state(COUNTDOWN), inputs=[3], program=COUNTDOWN),
                         (1, ((0, "main", 1, (("n", 3),)),), 1, (), None))
        for value in odd_values():
            with self.assertRaises(NoProgram) as caught:
                next_state(value, value, value)
            self.assertIs(caught.exception.told, value)
            with self.assertRaises(NoState) as caught:
                next_state(COUNTDOWN, [], value)
            self.assertIs(caught.exception.told, value)
        wrong = [value for value in odd_values() if not isinstance(value, (list, tuple))]
        for value in [*wrong, [0] * 13, (0,) * 13, [True], [9973], [-1], [1.0], (1, None), range(3), (Odd(),)]:
            with self.assertRaises(NoInputs) as caught:
                next_state(COUNTDOWN, value, None)
            self.assertIs(caught.exception.told, value)
        next_state(COUNTDOWN, [9972] * 12, first_state(COUNTDOWN))
        with self.assertRaises(NoState) as caught:
            next_state(CALLER, [], ENDED)
        self.assertIs(caught.exception.told, ENDED)
        with self.assertRaises(NoState):
            next_state(COUNTDOWN, [], STATE)

    def test_any_program_goes_as_the_rows_say(self):
        for seed in range(300):
            chance = chance_of(seed)
            program = random_program(chance)
            inputs = random_inputs(chance)
            machine = Machine(procedures_of(program), inputs)
            state = first_state(program)
            for _ in range(80):
                self.assertEqual(state, machine.shown())
                self.assertIs(is_state(program, state), True)
                if not state[1]:
                    break
                before = state
                try:
                    state = next_state(program, inputs, state)
                except TooMany:
                    self.assertEqual(len(before[1]), 10)
                    break
                machine.step()


class Cells(unittest.TestCase):
    def test_cell_in(self):
        for cell, told in (((0, "x"), 5), ((0, "y"), 0), ((7, "p"), 6), ((7, "q"), 2), ((9, "p"), 1), ((9, "r"), 0)):
            self.assertEqual(cell_in(CALLER, STATE, cell), told)
        self.assertEqual(cell_in(cell=(0, "x"), state=STATE, program=CALLER), 5)

    def test_no_cell(self):
        wrong = [*odd_values(), (0, "p"), (7, "x"), (8, "p"), (1, "x"), (-1, "x"), (False, "x"), (0.0, "x"), [0, "x"],
                 (0, "x", 1), ("x", 0), (0, "no"), (0, 0), (0, Odd()), (Odd(), "x"), ((0,), "x")]
        for cell in wrong:
            self.assertIsNone(cell_in(CALLER, STATE, cell))
            self.assertIsNone(cell_in(CALLER, ENDED, cell))
        self.assertIsNone(cell_in(CALLER, ENDED, (0, "x")))

    def test_what_cell_in_refuses(self):
        for value in odd_values():
            with self.assertRaises(NoProgram) as caught:
                cell_in(value, value, value)
            self.assertIs(caught.exception.told, value)
            with self.assertRaises(NoState) as caught:
                cell_in(CALLER, value, (0, "x"))
            self.assertIs(caught.exception.told, value)

    def test_a_row_alone(self):
        program = plain((("back", "x"),))
        self.assertEqual(next_state(program, [], first_state(program)), (1, (), 0, (), 0))


if __name__ == "__main__":
    unittest.main()
