"""Texts: conditions, commands, programs, settings and sessions, written by rows of words and read again."""

from plainmoment.edits import Edit
from plainmoment.errors import BadText, MomentError, NoCommand, NoCondition, NoStore, TooMany
from plainmoment.hands import is_command_form
from plainmoment.live import Live
from plainmoment.programs import Program, need_program
from plainmoment.roads import Setting, need_setting
from plainmoment.seeking import is_condition_form
from plainmoment.stretches import stretches
from plainmoment.words import UNDO, read_words, written

# Which part of a text, and which row behind it, lead to which part; rows of which no pair is here may not stand there.
# "rows" are all rows of procedures; "program", "old" and "new" say of which program they are.
LEADS = {
    ("begin", "procedure"): "program head",
    ("program head", "rows"): "program",
    ("program", "rows"): "program",
    ("program", "procedure"): "program head",
    ("program", "inputs"): "inputs",
    ("inputs", "made"): "made",
    ("inputs", "edit"): "edit",
    ("inputs", "hands"): "hands",
    ("made", "does"): "made",
    ("made", "labels"): "labels",
    ("labels", "made"): "made",
    ("labels", "edit"): "edit",
    ("labels", "hands"): "hands",
    ("edit", "procedure"): "old head",
    ("old head", "rows"): "old",
    ("old", "rows"): "old",
    ("old", "procedure"): "old head",
    ("old", "into"): "into",
    ("into", "procedure"): "new head",
    ("new head", "rows"): "new",
    ("new", "rows"): "new",
    ("new", "procedure"): "new head",
    ("new", "map"): "map",
    ("new", "edit"): "edit",
    ("new", "hands"): "hands",
    ("map", "map"): "map",
    ("map", "edit"): "edit",
    ("map", "hands"): "hands",
    ("hands", "hand"): "hands",
}
HEADS = ("procedure", "inputs", "made", "does", "labels", "edit", "into", "map", "hands", "hand")
PROGRAM_ENDS = ("program",)
SETTING_ENDS = ("inputs", "labels", "new", "map")
LIVE_ENDS = ("hands",)


def write_condition(condition):
    """The text of a condition of any program."""
    if not is_condition_form(condition):
        raise NoCondition(condition)
    return written(condition)


def write_command(command):
    """The text of a command of any setting, or of an undo."""
    if not is_command_form(command) and not _is_undo(command):
        raise NoCommand(command)
    return written(command)


def _is_undo(value):
    return isinstance(value, tuple) and len(value) == 1 and isinstance(value[0], str) and value == UNDO


def _program_rows(program):
    rows = []
    for name in program.names():
        _, parameters, steps = program.procedure(name)
        rows.append(("procedure", name) + parameters)
        rows.extend(list(steps))
    return rows


def _made_rows(made):
    stretch, steps, labels = made
    return [("made",) + stretch[:2]] + [("does", step) for step in steps] + [("labels", labels)]


def _edit_rows(edit):
    rows = [("edit",)] + _program_rows(edit.old()) + [("into",)] + _program_rows(edit.new())
    return rows + [("map", spot[0], spot[1], to[1]) for spot, to in edit.pairs()]


def _setting_rows(setting):
    rows = _program_rows(setting.program()) + [("inputs",) + setting.inputs()]
    for made in setting.code().listed():
        rows.extend(_made_rows(made))
    for edit in setting.edits():
        rows.extend(_edit_rows(edit))
    return rows


def _live_rows(live):
    rows = _setting_rows(live.setting()) + [("hands", live.many)]
    for hand in range(live.many):
        done, undone = live.line(hand)
        rows.extend([("hand", hand, command) for command in done + undone])
        rows.extend([("hand", hand, UNDO) for _ in undone])
    return rows


def _text_of(rows):
    return "\n".join([written(row) for row in rows])


def write_program(program):
    """The text of a program."""
    need_program(program)
    return _text_of(_program_rows(program))


def write_setting(setting):
    """The text of a setting."""
    need_setting(setting)
    return _text_of(_setting_rows(setting))


def write_live(live):
    """The text of a session."""
    if not isinstance(live, Live):
        raise NoStore(live)
    return _text_of(_live_rows(live))


def _read_row(kind, text):
    """What a text of one row tells."""
    if not isinstance(text, str):
        raise BadText(0)
    told = None if "\n" in text else read_words(kind, text)
    if told is None:
        raise BadText(1)
    return told


def read_condition(text):
    """The condition of a text."""
    return _read_row("condition", text)


def read_command(text):
    """The command of a text, or the undo."""
    return _read_row("deed", text)


class Rows:
    """The rows of a text, each of which has its form and stands rightly, to be taken one behind the other. A part of
    texts may be barred; the text ends with one of some parts."""

    def __init__(self, text, barred, ends):
        if not isinstance(text, str):
            raise BadText(0)
        self._told = []
        self._at = 0
        part = "begin"
        for row in text.split("\n"):
            told = read_words("row", row)
            part = None if told is None else _part_behind(part, told)
            if part is None or part == barred:
                raise BadText(len(self._told) + 1)
            self._told.append(told)
        if part not in ends:
            raise BadText(len(self._told) + 1)

    def number(self):
        """The number of the row that is next, counted from 1."""
        return self._at + 1

    def head(self):
        """The first word of the row that is next, "rows" of one of a procedure; None behind all."""
        return _head_of(self._told[self._at]) if self._at < len(self._told) else None

    def take(self):
        """The row that is next."""
        self._at = self._at + 1
        return self._told[self._at - 1]

    def take_all(self, head):
        """The list of the rows from here on that have this head."""
        taken = []
        while self.head() == head:
            taken.append(self.take())
        return taken


def _head_of(told):
    return told[0] if told[0] in HEADS else "rows"


def _part_behind(part, told):
    """The part of the text behind a row, None if it may not stand there."""
    return LEADS.get((part, _head_of(told)))


def _take_program(rows):
    procedures = []
    while rows.head() == "procedure":
        _, name, parameters = rows.take()
        procedures.append((name, parameters, tuple(rows.take_all("rows"))))
    return Program(procedures)


def _take_made(program, rows):
    number = rows.number()
    _, name, first = rows.take()
    found = [stretch for stretch in stretches(program) if stretch[:2] == (name, first)]
    if len(found) == 0:
        raise BadText(number)
    steps = tuple([told[1] for told in rows.take_all("does")])
    return (found[0], steps, rows.take()[1])


def _take_edit(rows):
    rows.take()
    old = _take_program(rows)
    rows.take()
    new = _take_program(rows)
    return Edit(old, new, [((name, one), (name, other)) for _, name, one, other in rows.take_all("map")])


def _take_setting(rows):
    program = _take_program(rows)
    inputs = rows.take()[1]
    mades = []
    while rows.head() == "made":
        mades.append(_take_made(program, rows))
    edits = []
    while rows.head() == "edit":
        edits.append(_take_edit(rows))
    return Setting(program, inputs, stretches=mades, edits=edits)


def _do_row(live, hand, deed):
    if deed == UNDO:
        live.undo(hand)
    else:
        live.do(hand, deed)


def read_program(text):
    """The program of a text."""
    return _take_program(Rows(text, "inputs", PROGRAM_ENDS))


def read_setting(text):
    """The setting of a text."""
    return _take_setting(Rows(text, "hands", SETTING_ENDS))


def read_live(text):
    """The session of a text, to which its commands and undos were done."""
    rows = Rows(text, None, LIVE_ENDS)
    setting = _take_setting(rows)
    live = Live(setting, many=rows.take()[1])
    while rows.head() is not None:
        number = rows.number()
        _, hand, deed = rows.take()
        try:
            _do_row(live, hand, deed)
        except (MomentError, TooMany):
            raise BadText(number) from None
    return live
