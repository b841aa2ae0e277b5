"""Edits: they lead from the rows of a program to those of another one with the same names of procedures."""

from plainmoment.checks import is_tuple_of
from plainmoment.errors import NoEdit, NoSpot
from plainmoment.programs import need_program


def need_like_names(program, other):
    """Refuses programs that have not the same names of procedures in the same order."""
    if program.names() != other.names():
        raise NoEdit("names")


def leads(program, other, spot, to):
    """Whether an edit may take a spot of a program to this spot of another one; nothing is asked of the spots."""
    if spot[0] != to[0]:
        return False
    row, led = program.row(spot), other.row(to)
    return row[0] != "call" or (led[0] == "call" and led[1] == row[1])


def _is_pair(program, other, value):
    if not is_tuple_of(value, 2) or not program.has_spot(value[0]) or not other.has_spot(value[1]):
        return False
    return leads(program, other, value[0], value[1])


class Edit:
    """An edit from a program to another one; it never changes."""

    def __init__(self, program, other, pairs):
        need_program(program)
        need_program(other)
        need_like_names(program, other)
        if not isinstance(pairs, (list, tuple)):
            raise NoEdit(None)
        led = {}
        for index, pair in enumerate(pairs):
            if not _is_pair(program, other, pair) or pair[0] in led:
                raise NoEdit(index)
            led[pair[0]] = pair[1]
        self._old = program
        self._new = other
        self._led = led

    def __eq__(self, other):
        return (isinstance(other, Edit) and self._old == other._old and self._new == other._new
                and self._led == other._led)

    @staticmethod
    def same(program):
        """The identity of a program: each spot leads to itself."""
        need_program(program)
        return Edit(program, program, [(spot, spot) for spot in program.spots()])

    def old(self):
        """The program from which it leads."""
        return self._old

    def new(self):
        """The program to which it leads."""
        return self._new

    def pairs(self):
        """The list of the pairs, ascending by their first spots."""
        return [(spot, self._led[spot]) for spot in self._old.spots() if spot in self._led]

    def to(self, spot):
        """The spot to which a spot of the first program leads, or None."""
        if not self._old.has_spot(spot):
            raise NoSpot(spot)
        return self._led.get(spot)

    def is_same(self):
        """Whether it is the identity of its program."""
        return self == Edit.same(self._old)

    def then(self, edit):
        """The joined edit: this one, and behind it another one of the program to which this one leads."""
        if not isinstance(edit, Edit) or edit.old() != self._new:
            raise NoEdit(edit)
        joined = [(spot, edit.to(to)) for spot, to in self.pairs()]
        return Edit(self._old, edit.new(), [pair for pair in joined if pair[1] is not None])
