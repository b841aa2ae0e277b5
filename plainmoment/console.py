"""A console: it keeps rows, reads a session from them, and answers each line by a text."""

from plainmoment.causes import causes_of
from plainmoment.errors import MomentError, NoLine, TooMany
from plainmoment.seeking import first_moment
from plainmoment.texts import read_live, write_live
from plainmoment.words import read_words

OK = "ok"
ERROR = "error"
UNKNOWN = "unknown"


def _joined(parts):
    """The words of parts, or a sign that there are none."""
    return " ".join([str(part) for part in parts]) if len(parts) > 0 else "-"


def _place(live, line):
    legs, moment, made = live.place(line[1])
    return _joined([moment, len(legs)] + ([] if made is None else [made[1]]))


def _spot(live, line):
    frames = live.sees(line[1])[1]
    return _joined(frames[-1][1:3]) if len(frames) > 0 else "ended"


def _cell(live, line):
    _, hand, born, variable = line
    for frame in live.sees(hand)[1]:
        for name, value in frame[3]:
            if (frame[0], name) == (born, variable):
                return "gone" if value is None else str(value)
    return "none"


def _out(live, line):
    return _joined(live.sees(line[1])[3])


def _line(live, line):
    done, undone = live.line(line[1])
    return _joined([len(done), len(undone)])


def _with(live, line):
    return _joined(live.hands_with(line[1]))


def _causes(live, line):
    _, hand, born, variable = line
    road, moment, _ = live.stand(hand)
    return _joined(causes_of(road.run(), moment, (born, variable)))


def _first(live, line):
    moment = first_moment(live.setting().main_run(), 0, line[1])
    return "none" if moment is None else str(moment)


def _show(live, line):
    return str(len(write_live(live).split("\n")))


ASKING = {"place": _place, "spot": _spot, "cell": _cell, "out": _out, "line": _line, "with": _with,
          "causes": _causes, "first": _first, "show": _show}


def _do(live, line):
    word = line[0]
    if word == "hand":
        live.do(line[1], line[2])
    elif word == "undo":
        live.undo(line[1])
    elif word == "redo":
        live.redo(line[1])
    elif word == "back":
        live.back()
    else:
        live.again()
    return OK


def _answer(live, line):
    """The answer to a line that has its form, and is asked of a session."""
    try:
        if line[0] not in ASKING:
            return _do(live, line)
        ask = ASKING[line[0]]
        return ask(live, line)
    except (MomentError, TooMany):
        return ERROR


class Console:
    """A console, at first without rows and without a session."""

    def __init__(self):
        self._rows = []
        self._live = None

    def _begin(self):
        try:
            self._live = read_live("\n".join(self._rows))
        except (MomentError, TooMany):
            return ERROR
        return OK

    def _clear(self):
        self._rows = []
        self._live = None
        return OK

    def run(self, line):
        """The answer to a line."""
        if not isinstance(line, str):
            raise NoLine(line)
        if "\n" in line:
            return UNKNOWN
        if line.startswith("+"):
            self._rows.append(line[1:])
            return OK
        told = read_words("line", line)
        if told is None:
            return UNKNOWN
        if told[0] == "clear":
            return self._clear()
        if told[0] == "begin":
            return self._begin()
        return ERROR if self._live is None else _answer(self._live, told)
