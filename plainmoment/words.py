"""Words: how rows of texts and lines are written by them, and what they tell."""

from plainmoment.checks import is_name, is_value, is_within
from plainmoment.made import REGISTERS
from plainmoment.rows import MOST_OPERANDS, is_op
from plainmoment.seeking import MOST_WITHIN

# What stands behind the first word, which tells what it is of its kind; "row" are all rows of texts.
SHAPES = {
    ("condition", "cell"): ("number", "name", "value"),
    ("condition", "above"): ("number", "name", "value"),
    ("condition", "row"): ("spot",),
    ("condition", "beneath"): ("spot",),
    ("condition", "output"): ("number", "value"),
    ("condition", "outputs"): ("number",),
    ("condition", "depth"): ("number",),
    ("condition", "ended"): (),
    ("condition", "not"): ("condition",),
    ("condition", "both"): ("condition", "condition"),
    ("condition", "either"): ("condition", "condition"),
    ("command", "on"): ("steps",),
    ("command", "back"): ("steps",),
    ("command", "to"): ("number",),
    ("command", "next"): ("condition",),
    ("command", "last"): ("condition",),
    ("command", "change"): ("number", "name", "value"),
    ("command", "land"): ("number",),
    ("command", "stop"): ("number", "number"),
    ("command", "home"): (),
    ("made row", "set"): ("place", "op", "part", "part"),
    ("made row", "copy"): ("place", "part"),
    ("row", "set"): ("name", "op", "operand", "operand"),
    ("row", "copy"): ("name", "operand"),
    ("row", "if"): ("operand", "index"),
    ("row", "go"): ("index",),
    ("row", "call"): ("name", "name", "operands"),
    ("row", "back"): ("operand",),
    ("row", "get"): ("name",),
    ("row", "out"): ("operand",),
    ("row", "procedure"): ("name", "names"),
    ("row", "inputs"): ("values",),
    ("row", "made"): ("name", "index"),
    ("row", "does"): ("made row",),
    ("row", "labels"): ("values",),
    ("row", "edit"): (),
    ("row", "into"): (),
    ("row", "map"): ("name", "index", "index"),
    ("row", "hands"): ("value",),
    ("row", "hand"): ("value", "deed"),
    ("line", "clear"): (),
    ("line", "begin"): (),
    ("line", "hand"): ("value", "command"),
    ("line", "undo"): ("value",),
    ("line", "redo"): ("value",),
    ("line", "back"): (),
    ("line", "again"): (),
    ("line", "place"): ("value",),
    ("line", "spot"): ("value",),
    ("line", "cell"): ("value", "value", "name"),
    ("line", "out"): ("value",),
    ("line", "line"): ("value",),
    ("line", "with"): ("value",),
    ("line", "causes"): ("value", "value", "name"),
    ("line", "first"): ("condition",),
    ("line", "show"): (),
}
SHAPED = ("condition", "command", "made row", "row", "line")
MANY = {"names": "name", "values": "value", "operands": "operand"}
LEAST = {"value": 0, "number": 0, "steps": 1, "index": 0}
MOST = {"value": 9972, "number": 600, "steps": 600, "index": 11}
UNDO = ("undo",)


def _figure_of(word):
    """The number that a word writes, None of one that is no figure."""
    if not 1 <= len(word) <= 4 or not all(["0" <= sign <= "9" for sign in word]):
        return None
    if len(word) > 1 and word[0] == "0":
        return None
    return int(word) if is_value(int(word)) else None


def _told_by(kind, word):
    """What one word tells by its kind, None of one that is none of it."""
    if kind in LEAST:
        number = _figure_of(word)
        return number if is_within(number, LEAST[kind], MOST[kind]) else None
    if kind == "op":
        return word if is_op(word) else None
    if is_name(word) or (kind in ("place", "part") and word in REGISTERS):
        return word
    return _figure_of(word) if kind in ("operand", "part") else None


def _take_many(kind, words, at):
    told = [_told_by(MANY[kind], word) for word in words[at:]]
    if None in told or (kind == "operands" and len(told) > MOST_OPERANDS):
        return None
    return (tuple(told), len(words))


def _take_shaped(kind, words, at, left):
    if at == len(words) or (kind, words[at]) not in SHAPES or left == 0:
        return None
    within = left - 1 if kind == "condition" else left
    taken = _take_all(SHAPES[(kind, words[at])], words, at + 1, within)
    return None if taken is None else ((words[at],) + taken[0], taken[1])


def _take(kind, words, at, left):
    """The pair of what words tell by a kind, from a place on, and of the place behind; None if they do not fit. Left
    is how many conditions there may be within one another."""
    if kind == "deed":
        return (UNDO, at + 1) if words[at:at + 1] == ["undo"] else _take("command", words, at, left)
    if kind == "spot":
        return _take_all(("name", "index"), words, at, left)
    if kind in MANY:
        return _take_many(kind, words, at)
    if kind in SHAPED:
        return _take_shaped(kind, words, at, left)
    told = _told_by(kind, words[at]) if at < len(words) else None
    return None if told is None else (told, at + 1)


def _take_all(kinds, words, at, left):
    told = []
    for kind in kinds:
        taken = _take(kind, words, at, left)
        if taken is None:
            return None
        told.append(taken[0])
        at = taken[1]
    return (tuple(told), at)


def read_words(kind, row):
    """The tuple that a row of words tells by its kind, None if it has no such form."""
    words = row.split(" ")
    taken = _take(kind, words, 0, MOST_WITHIN)
    return taken[0] if taken is not None and taken[1] == len(words) else None


def _words_of(value):
    if not isinstance(value, tuple):
        return [str(value)]
    return [word for part in value for word in _words_of(part)]


def written(value):
    """The row of the words of a tuple, those of tuples in it too, in their order."""
    return " ".join(_words_of(value))
