"""Rows of procedures, their operands, and what their ops make of values."""

from plainmoment.checks import MODULUS, is_listed, is_name, is_tuple_of, is_value, is_within
from plainmoment.errors import NoRow, NoValue

OPS = ("add", "sub", "mul", "less")
MOST_ROWS = 12
MOST_OPERANDS = 2


def is_op(value):
    """Whether any value is one of the ops."""
    return isinstance(value, str) and value in OPS


def is_operand(value):
    """Whether any value is a variable or a value."""
    return is_value(value) or is_name(value)


def is_row_index(value):
    """Whether any value is the index of a row in the longest procedure there may be."""
    return is_within(value, 0, MOST_ROWS - 1)


def _is_set(value):
    return len(value) == 5 and is_name(value[1]) and is_op(value[2]) and is_operand(value[3]) and is_operand(value[4])


def _is_call(value):
    if len(value) != 4 or not is_name(value[1]) or not is_name(value[2]):
        return False
    operands = value[3]
    return isinstance(operands, tuple) and is_listed(operands, MOST_OPERANDS) and _are_operands(operands)


def _are_operands(values):
    return all([is_operand(value) for value in values])


def _is_pair_row(word, part):
    if word == "go":
        return is_row_index(part)
    if word == "get":
        return is_name(part)
    return word in ("back", "out") and is_operand(part)


def is_row(value):
    """Whether any value is a row."""
    if not isinstance(value, tuple) or len(value) < 2 or not isinstance(value[0], str):
        return False
    word = value[0]
    if word == "set":
        return _is_set(value)
    if word == "call":
        return _is_call(value)
    if word == "copy":
        return len(value) == 3 and is_name(value[1]) and is_operand(value[2])
    if word == "if":
        return len(value) == 3 and is_operand(value[1]) and is_row_index(value[2])
    return is_tuple_of(value, 2) and _is_pair_row(word, value[1])


def reckoned(op, one, other):
    """What an op makes of two values."""
    if not is_op(op):
        raise NoValue(op)
    if not is_value(one):
        raise NoValue(one)
    if not is_value(other):
        raise NoValue(other)
    if op == "less":
        return 1 if one < other else 0
    if op == "add":
        return (one + other) % MODULUS
    if op == "sub":
        return (one - other) % MODULUS
    return one * other % MODULUS


def operands_of(row):
    """The tuple of the operands of a row, in order."""
    if not is_row(row):
        raise NoRow(row)
    word = row[0]
    if word == "set":
        return row[3:]
    if word == "copy":
        return row[2:]
    if word == "call":
        return row[3]
    if word in ("if", "back", "out"):
        return row[1:2]
    return ()


def set_by(row):
    """The variable that a set, copy, call or get row sets, otherwise None."""
    if not is_row(row):
        raise NoRow(row)
    return row[1] if row[0] in ("set", "copy", "call", "get") else None
