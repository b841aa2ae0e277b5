"""Programs: up to four procedures of rows, their spots, and where steps lead within a procedure."""

from plainmoment.checks import is_listed, is_name, is_tuple_of, is_within
from plainmoment.errors import NoProcedure, NoProgram, NoSpot
from plainmoment.rows import MOST_OPERANDS, MOST_ROWS, is_row, operands_of, set_by

MOST_PROCEDURES = 4


def _are_parameters(value):
    if not isinstance(value, tuple) or not is_listed(value, MOST_OPERANDS):
        return False
    return all([is_name(name) for name in value]) and (len(value) < 2 or value[0] != value[1])


def _is_led_within(row, many):
    return row[0] not in ("if", "go") or row[-1] < many


def _are_rows(value):
    if not isinstance(value, tuple) or not 1 <= len(value) <= MOST_ROWS:
        return False
    if not all([is_row(row) for row in value]) or value[-1][0] not in ("go", "back"):
        return False
    return all([_is_led_within(row, len(value)) for row in value])


def _is_procedure(value):
    return is_tuple_of(value, 3) and is_name(value[0]) and _are_parameters(value[1]) and _are_rows(value[2])


def _first_wrong_procedure(procedures):
    ahead = []
    for index, procedure in enumerate(procedures):
        if not _is_procedure(procedure) or procedure[0] in ahead:
            return index
        if index == 0 and len(procedure[1]) > 0:
            return index
        ahead.append(procedure[0])
    return None


def _first_wrong_caller(procedures):
    counts = {name: len(parameters) for name, parameters, _ in procedures[1:]}
    for index, procedure in enumerate(procedures):
        for row in procedure[2]:
            if row[0] == "call" and counts.get(row[2]) != len(row[3]):
                return index
    return None


def _variables(procedure):
    found = list(procedure[1])
    for row in procedure[2]:
        found.append(set_by(row))
        found.extend(operands_of(row))
    return tuple(sorted({part for part in found if is_name(part)}))


def _next_indexes(row, index):
    if row[0] == "back":
        return ()
    if row[0] == "go":
        return (row[1],)
    if row[0] == "if":
        return tuple(sorted({index + 1, row[2]}))
    return (index + 1,)


class Program:
    """A program; it never changes."""

    def __init__(self, procedures):
        if not is_listed(procedures, MOST_PROCEDURES) or len(procedures) == 0:
            raise NoProgram(None)
        given = tuple(procedures)
        wrong = _first_wrong_procedure(given)
        if wrong is None:
            wrong = _first_wrong_caller(given)
        if wrong is not None:
            raise NoProgram(wrong)
        self._procedures = given
        self._named = {procedure[0]: procedure for procedure in given}
        self._variables = {procedure[0]: _variables(procedure) for procedure in given}

    def __eq__(self, other):
        return isinstance(other, Program) and self._procedures == other._procedures

    def names(self):
        """The names of the procedures, main first."""
        return [procedure[0] for procedure in self._procedures]

    def procedure(self, name):
        """The procedure of this name: the tuple (name, parameters, rows)."""
        if not is_name(name) or name not in self._named:
            raise NoProcedure(name)
        return self._named[name]

    def variables_of(self, name):
        """The variables of the procedure of this name, ascending."""
        if not is_name(name) or name not in self._variables:
            raise NoProcedure(name)
        return list(self._variables[name])

    def has_spot(self, value):
        """Whether any value is a spot of the program."""
        if not is_tuple_of(value, 2) or not is_name(value[0]) or value[0] not in self._named:
            return False
        return is_within(value[1], 0, len(self._named[value[0]][2]) - 1)

    def row(self, spot):
        """The row at a spot."""
        if not self.has_spot(spot):
            raise NoSpot(spot)
        return self._named[spot[0]][2][spot[1]]

    def spots(self):
        """All spots, procedure by procedure."""
        return [(name, index) for name, _, rows in self._procedures for index in range(len(rows))]

    def nexts(self, spot):
        """The spots of the same procedure to which a step may lead from a spot, ascending, each once."""
        return [(spot[0], index) for index in _next_indexes(self.row(spot), spot[1])]


def need_program(program):
    """Refuses any value that is no program."""
    if not isinstance(program, Program):
        raise NoProgram(program)


def need_procedure(program, procedure):
    """Refuses any value that is no program, and then any that is no name of a procedure of it."""
    need_program(program)
    program.procedure(procedure)


def need_spot(program, spot):
    """Refuses any value that is no program, and then any that is no spot of it."""
    need_program(program)
    if not program.has_spot(spot):
        raise NoSpot(spot)
