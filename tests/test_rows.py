"""Promise [1]: values, names, operands, ops and rows."""

import unittest

from plainmoment.errors import NoRow, NoValue
from plainmoment.rows import OPS, is_operand, is_row, operands_of, reckoned, set_by
from tests.samples import Odd, odd_values

RIGHT = (
    ("set", "x", "add", 0, 9972), ("set", "abcd", "sub", "x", "x"), ("set", "x", "mul", "y", 1),
    ("set", "x", "less", 5, "x"), ("copy", "x", "x"), ("copy", "x", 0), ("if", "x", 0), ("if", 9972, 11),
    ("go", 0), ("go", 11), ("call", "x", "x", ()), ("call", "x", "f", (1,)), ("call", "x", "f", ("x", "x")),
    ("back", 0), ("back", "z"), ("get", "get"), ("out", "out"), ("out", 9972),
)

WRONG = (
    ("set",), ("set", "x", "add", 1), ("set", "x", "add", 1, 2, 3), ("set", 1, "add", 1, 2),
    ("set", "x", "div", 1, 2), ("set", "x", "ADD", 1, 2), ("set", "x", 1, 1, 2), ("set", "x", "add", 9973, 2),
    ("set", "x", "add", 1, -1), ("set", "x", "add", True, 1), ("set", "x", "add", 1, False),
    ("set", "x", "add", 1.0, 1), ("set", "x", "add", "abcde", 1), ("set", "x", "add", "", 1), ("set", "X", "add", 1, 1),
    ("copy", "x"), ("copy", "x", 1, 1), ("copy", 1, "x"), ("copy", "x", 9973), ("copy", "x", None),
    ("if", "x"), ("if", "x", 12), ("if", "x", -1), ("if", "x", True), ("if", "x", "x"), ("if", True, 1),
    ("if", "x", 1, 1), ("go",), ("go", 12), ("go", -1), ("go", False), ("go", 1.0), ("go", "x"), ("go", 1, 1),
    ("call", "x", "f"), ("call", "x", "f", [1]), ("call", "x", "f", (1, 2, 3)), ("call", "x", "f", (True,)),
    ("call", "x", "f", 1), ("call", 1, "f", ()), ("call", "x", 1, ()), ("call", "x", "F", ()),
    ("call", "x", "f", (), ()), ("back",), ("back", True), ("back", 9973), ("back", 1, 1), ("get",), ("get", 1),
    ("get", "x", "x"), ("get", "x1"), ("out",), ("out", None), ("out", "x", 1), ("stop", "x"), ("add", 1), (), ("x",),
    ("set", Odd(), "add", 1, 1), ("set", "x", Odd(), 1, 1), ("set", "x", "add", Odd(), 1), (Odd(), 1), (["set"], 1),
    ("go", Odd()), ("call", "x", "f", Odd()), ("call", "x", "f", (Odd(),)), ("copy", "x", Odd()), ("get", Odd()),
)


class Operands(unittest.TestCase):
    def test_values_are_numbers_from_0_to_9972(self):
        for value in (0, 1, 9972):
            self.assertIs(is_operand(value), True)
        for value in (-1, 9973, True, False, 1.0, None, 10 ** 199):
            self.assertIs(is_operand(value), False)

    def test_variables_are_one_to_four_small_letters(self):
        for value in ("a", "z", "az", "abc", "less"):
            self.assertIs(is_operand(value), True)
        for value in ("", "abcde", "A", "aB", "a1", "a_", "a ", " a", "a\n", "\u00e4", "\u0430", b"a", ("a",)):
            self.assertIs(is_operand(value), False)

    def test_any_value_may_be_asked(self):
        for value in odd_values():
            self.assertIs(is_operand(value), False)
        self.assertIs(is_operand(value="x"), True)


class Rows(unittest.TestCase):
    def test_ops(self):
        self.assertEqual(OPS, ("add", "sub", "mul", "less"))

    def test_right_rows(self):
        for row in RIGHT:
            self.assertIs(is_row(row), True, row)

    def test_wrong_rows(self):
        for row in (*WRONG, *odd_values()):
            self.assertIs(is_row(row), False)

    def test_lists_are_no_rows(self):
        for row in RIGHT:
            self.assertIs(is_row(list(row)), False, row)

    def test_any_change_of_a_row_to_a_truth_is_wrong(self):
        for row in RIGHT:
            for at in range(len(row)):
                for truth in (True, False):
                    self.assertIs(is_row(row[:at] + (truth,) + row[at + 1:]), False, row)

    def test_reckoned(self):
        self.assertEqual(reckoned("add", 9972, 1), 0)
        self.assertEqual(reckoned("add", 9972, 9972), 9971)
        self.assertEqual(reckoned("sub", 0, 1), 9972)
        self.assertEqual(reckoned("sub", 9972, 0), 9972)
        self.assertEqual(reckoned("mul", 9972, 9972), 1)
        self.assertEqual(reckoned("mul", 100, 100), 27)
        self.assertEqual(reckoned("less", 1, 2), 1)
        self.assertEqual(reckoned("less", 2, 2), 0)
        self.assertEqual(reckoned("less", 9972, 0), 0)
        self.assertEqual(reckoned(other=2, one=5, op="sub"), 3)

    def test_reckoned_refuses_the_first_wrong_one(self):
        for arguments, told in ((("div", -1, -1), "div"), ((1, 1, 1), 1), (("add", -1, 9973), -1),
                                (("add", 0, 9973), 9973), (("add", "x", 1), "x"), (("add", 1, None), None)):
            with self.assertRaises(NoValue) as caught:
                reckoned(*arguments)
            self.assertEqual(caught.exception.told, told)
        for truth in (True, False):
            with self.assertRaises(NoValue) as caught:
                reckoned("add", truth, "x")
            self.assertIs(caught.exception.told, truth)
            with self.assertRaises(NoValue) as caught:
                reckoned("add", 1, truth)
            self.assertIs(caught.exception.told, truth)
        for value in odd_values():
            for arguments in ((value, 1, 1), ("add", value, Odd()), ("add", 1, value)):
                with self.assertRaises(NoValue) as caught:
                    reckoned(*arguments)
                self.assertIs(caught.exception.told, value)

    def test_operands_of(self):
        told = {
            ("set", "x", "add", "y", 3): ("y", 3), ("set", "x", "sub", "x", "x"): ("x", "x"), ("copy", "x", 4): (4,),
            ("if", "x", 3): ("x",), ("if", 0, 0): (0,), ("go", 3): (), ("get", "x"): (), ("back", "x"): ("x",),
            ("out", 5): (5,), ("call", "x", "f", ()): (), ("call", "x", "f", ("y", 2)): ("y", 2),
        }
        for row, operands in told.items():
            self.assertEqual(operands_of(row), operands)
            self.assertIs(type(operands_of(row)), tuple)
        self.assertEqual(operands_of(row=("out", 1)), (1,))

    def test_set_by(self):
        told = {
            ("set", "x", "add", "y", 3): "x", ("copy", "y", 4): "y", ("get", "z"): "z", ("call", "w", "f", ()): "w",
            ("if", "x", 3): None, ("go", 3): None, ("back", "x"): None, ("out", "x"): None,
        }
        for row, variable in told.items():
            self.assertEqual(set_by(row), variable)

    def test_both_refuse_what_is_no_row(self):
        for row in (*WRONG, *odd_values()):
            for asked in (operands_of, set_by):
                with self.assertRaises(NoRow) as caught:
                    asked(row)
                self.assertIs(caught.exception.told, row)


if __name__ == "__main__":
    unittest.main()
