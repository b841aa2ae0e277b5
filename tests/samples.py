"""What several tests need: odd values, programs, and an own plain reckoning to compare with."""

import random
import unittest
from fractions import Fraction

from plainmoment.causes import writes_of
from plainmoment.edits import Edit
from plainmoment.errors import NoChanges, TooMany
from plainmoment.landings import goal, gone_behind
from plainmoment.made import is_right
from plainmoment.programs import Program
from plainmoment.roads import Setting
from plainmoment.runs import Run
from plainmoment.stretches import stretches

NAMES = ("a", "b", "x", "yy", "zed", "long")


class Odd:
    """A value that refuses to be compared, hashed, counted or gone through."""

    __hash__ = None

    def __eq__(self, other):
        raise AssertionError("compared")

    def __len__(self):
        raise AssertionError("counted")

    def __iter__(self):
        raise AssertionError("gone through")

    def __bool__(self):
        raise AssertionError("taken for a truth")


def odd_values():
    """Values that are nothing of this package; each call makes new ones."""
    return [None, True, False, -1, 10 ** 60, 1.0, 0.0, 2j, "", "X", "abcde", "a b", "\u00e9", b"x", [], {}, (),
            [1], {"a": 1}, {1}, (1,), ("a",), (True,), ((),), ([],), ({},), Odd(), (Odd(),), (Odd(), Odd()),
            (Odd(), Odd(), Odd()), [Odd()], object(), object, len]


def plain(rows, name="main"):
    """The program of one procedure with these rows."""
    return Program([(name, (), tuple(rows))])


COUNTDOWN = Program([
    ("main", (), (
        ("get", "n"),
        ("copy", "s", 0),
        ("if", "n", 4),
        ("back", "s"),
        ("set", "s", "add", "s", "n"),
        ("set", "n", "sub", "n", 1),
        ("go", 2),
    )),
])

CALLER = Program([
    ("main", (), (
        ("get", "x"),
        ("call", "y", "dbl", ("x",)),
        ("out", "y"),
        ("call", "z", "sum", ("x", 3)),
        ("back", "z"),
    )),
    ("dbl", ("p",), (
        ("set", "p", "add", "p", "p"),
        ("back", "p"),
    )),
    ("sum", ("p", "q"), (
        ("if", "q", 2),
        ("back", "p"),
        ("set", "p", "add", "p", 1),
        ("set", "q", "sub", "q", 1),
        ("call", "r", "sum", ("p", "q")),
        ("back", "r"),
    )),
])

DEEP = Program([
    ("main", (), (("get", "n"), ("call", "x", "f", ("n",)), ("back", "x"))),
    ("f", ("n",), (
        ("if", "n", 2),
        ("back", 7),
        ("set", "m", "sub", "n", 1),
        ("call", "x", "f", ("m",)),
        ("back", "x"),
    )),
])


def reckon(op, one, other):
    """An op, reckoned anew."""
    made = {"add": one + other, "sub": one - other, "mul": one * other, "less": int(one < other)}
    return made[op] % 9973


class Machine:
    """An own plain doing of a program, by dicts that are changed in place."""

    def __init__(self, procedures, inputs):
        self.rows = {name: rows for name, _, rows in procedures}
        self.parameters = {name: parameters for name, parameters, _ in procedures}
        self.inputs = list(inputs)
        self.frames = [[0, procedures[0][0], 0, {}]]
        self.moment = self.asked = 0
        self.outputs = []
        self.result = None

    def shown(self):
        """The state as the document tells it."""
        frames = []
        for born, name, index, values in self.frames:
            pairs = tuple(sorted((variable, value) for variable, value in values.items() if value))
            frames.append((born, name, index, pairs))
        return (self.moment, tuple(frames), self.asked, tuple(self.outputs), self.result)

    def change(self, born, variable, value):
        for frame in self.frames:
            if frame[0] == born:
                frame[3][variable] = value

    def step(self):
        frame = self.frames[-1]
        row = self.rows[frame[1]][frame[2]]
        values = frame[3]
        self.moment += 1

        def worth(operand):
            return operand if isinstance(operand, int) else values.get(operand, 0)

        if row[0] == "call":
            begun = dict(zip(self.parameters[row[2]], [worth(part) for part in row[3]]))
            self.frames.append([self.moment, row[2], 0, begun])
            return
        if row[0] == "back":
            self.frames.pop()
            if not self.frames:
                self.result = worth(row[1])
                return
            caller = self.frames[-1]
            caller[3][self.rows[caller[1]][caller[2]][1]] = worth(row[1])
            caller[2] += 1
            return
        frame[2] += 1
        if row[0] == "go":
            frame[2] = row[1]
        elif row[0] == "if" and worth(row[1]):
            frame[2] = row[2]
        elif row[0] == "out":
            self.outputs.append(worth(row[1]))
        elif row[0] == "copy":
            values[row[1]] = worth(row[2])
        elif row[0] == "set":
            values[row[1]] = reckon(row[2], worth(row[3]), worth(row[4]))
        elif row[0] == "get":
            values[row[1]] = self.inputs[self.asked] if self.asked < len(self.inputs) else 0
            self.asked += 1


def random_operand(chance, names):
    if chance.random() < 0.6:
        return chance.choice(names)
    return chance.choice((0, 0, 1, 2, 3, 9972, chance.randrange(9973)))


def random_row(chance, names, many, callees):
    def operand():
        return random_operand(chance, names)

    word = chance.choice(("set", "set", "set", "copy", "copy", "if", "if", "go", "call", "call", "back", "get", "out"))
    if word == "call" and not callees:
        word = "set"
    if word == "set":
        return ("set", chance.choice(names), chance.choice(("add", "sub", "mul", "less")), operand(), operand())
    if word == "copy":
        return ("copy", chance.choice(names), operand())
    if word == "if":
        return ("if", operand(), chance.randrange(many))
    if word == "go":
        return ("go", chance.randrange(many))
    if word == "call":
        name, parameters = chance.choice(callees)
        return ("call", chance.choice(names), name, tuple(operand() for _ in parameters))
    if word == "get":
        return ("get", chance.choice(names))
    return (word, operand())


def random_procedure(chance, name, parameters, callees):
    names = sorted({*chance.sample(NAMES, chance.randrange(2, 5)), *parameters})
    many = chance.choice((chance.randrange(1, 13), chance.randrange(5, 13)))
    rows = [random_row(chance, names, many, callees) for _ in range(many - 1)]
    rows.append(chance.choice((("back", random_operand(chance, names)), ("back", chance.choice(names)),
                               ("go", chance.randrange(many)))))
    return (name, parameters, tuple(rows))


def random_program(chance):
    """Any program by chance, with calls of all kinds; mostly of procedures that stand behind."""
    heads = [("main", ())]
    for name in chance.sample(("f", "g", "x"), chance.randrange(4)):
        heads.append((name, tuple(chance.sample(NAMES, chance.randrange(3)))))
    procedures = []
    for at, (name, parameters) in enumerate(heads):
        callees = heads[max(1, at + 1):] if chance.random() < 0.8 else heads[1:]
        procedures.append(random_procedure(chance, name, parameters, callees))
    return Program(procedures)


def procedures_of(program):
    return [program.procedure(name) for name in program.names()]


def random_inputs(chance):
    return [chance.choice((0, 1, 2, 5, chance.randrange(9973))) for _ in range(chance.randrange(5))]


def chance_of(seed):
    return random.Random(seed)


def random_run(chance, most=600):
    """A run within the limits, of at most so many steps, by chance: the richest one of several."""
    found = []
    while len(found) < 8:
        try:
            run = Run(random_program(chance), random_inputs(chance))
        except TooMany:
            continue
        if run.last() <= most:
            frames = max(len(run.state(t)[1]) for t in range(run.last()))
            found.append((len({run.spot_at(t) for t in range(run.last())}) * frames, len(found), run))
    return max(found)[2]


def random_changes(chance, run):
    """Up to eight changes that can be done in the run, if none moves it elsewhere."""
    found = []
    for t in sorted(chance.randrange(run.last()) for _ in range(chance.randrange(9))):
        frame = chance.choice(run.state(t)[1])
        variables = run.program().variables_of(frame[1])
        if variables:
            found.append((t, frame[0], chance.choice(variables), chance.choice((0, 1, 2, chance.randrange(9973)))))
    return found


def changed_run(chance, most=600):
    """A run with changes, by chance."""
    while True:
        run = random_run(chance, most)
        try:
            return Run(run.program(), run.inputs(), random_changes(chance, run))
        except (TooMany, NoChanges):
            continue


REGISTERS = ("r0", "r1", "r2", "r3")


def random_labels(chance, many, length):
    """Labels of so many made rows, from 0 to the length, never falling."""
    if many == 0:
        return (length,)
    return (0, *sorted(chance.randrange(length + 1) for _ in range(many - 1)), length)


def random_made(chance, program, stretch):
    """A made stretch by chance, mostly wrong, its rows as those of the stretch might be or any others."""
    among = program.variables_of(stretch[0]) + list(REGISTERS)
    rows = []
    for _ in range(chance.randrange(7)):
        parts = [chance.choice(among) if chance.random() < 0.8 else chance.randrange(9973) for _ in range(2)]
        op = chance.choice(("add", "sub", "mul", "less"))
        row = ("copy", parts[0]) if chance.random() < 0.4 else ("set", op, *parts)
        rows.append((row[0], chance.choice(among), *row[1:]))
    return (stretch, tuple(rows), random_labels(chance, len(rows), stretch[2] - stretch[1] + 1))


def right_made(chance, program, stretch):
    """A right made stretch by chance: values stay in registers for a while, and some homes are written late."""
    name, first, last = stretch
    begun = program.procedure(name)[2][first:last + 1]
    where = {variable: variable for variable in program.variables_of(name)}
    rows = []

    def free_register():
        free = [place for place in REGISTERS if place not in where.values()]
        return chance.choice(free) if free else None

    for row in begun:
        parts = [where[part] if isinstance(part, str) else part for part in row[-2:]]
        target = free_register() if chance.random() < 0.6 else None
        if row[0] == "copy":
            rows.append(("copy", target or row[1], parts[-1]))
        else:
            rows.append(("set", target or row[1], row[2], *parts))
        where[row[1]] = target or row[1]
        if target is not None and chance.random() < 0.2:
            rows.append(("copy", row[1], target))
            where[row[1]] = row[1]
        elif target is not None and chance.random() < 0.3:
            rows.append(("copy", row[1], chance.choice((7, "r3"))))
    for variable, place in where.items():
        if place != variable:
            rows.append(("copy", variable, place))
    if chance.random() < 0.3:
        rows.append(("copy", chance.choice(REGISTERS), chance.choice(list(where))))
    if len(rows) > 12:
        rows = list(begun)
    return (stretch, tuple(rows), random_labels(chance, len(rows), len(begun)))


def names_in(row):
    parts = {"set": row[3:], "copy": row[2:], "call": row[-1], "go": (), "get": ()}.get(row[0], row[1:2])
    return {part for part in parts if isinstance(part, str)}


def is_live_anew(program, spot, variable):
    """Whether there is a way, sought spot by spot."""
    seen, waiting = set(), [spot]
    while waiting:
        here = waiting.pop()
        if here in seen:
            continue
        seen.add(here)
        row = program.procedure(here[0])[2][here[1]]
        if variable in names_in(row):
            return True
        if row[0] not in ("set", "copy", "get", "call") or row[1] != variable:
            waiting += program.nexts(here)
    return False


def live_anew(program, spot):
    return tuple(name for name in program.variables_of(spot[0]) if is_live_anew(program, spot, name))


def beneath_anew(program, spot):
    x = program.row(spot)[1]
    return tuple(name for name in live_anew(program, (spot[0], spot[1] + 1)) if name != x)


def key_anew(program, inputs, state):
    frames = []
    for at, (_, name, index, values) in enumerate(state[1], 1):
        told = (live_anew if at == len(state[1]) else beneath_anew)(program, (name, index))
        frames.append((name, index, tuple((one, dict(values).get(one, 0)) for one in told)))
    return (tuple(frames), tuple(inputs)[state[2]:], state[4])


def edited_rows(chance, rows, names):
    """Rows edited by chance, and the dict from the indexes of those that stay to the new ones."""
    kept = [(index, row) for index, row in enumerate(rows)]
    for _ in range(chance.randrange(3)):
        at = chance.randrange(len(kept))
        kind = chance.random()
        if kind < 0.5 and len(kept) < 12:
            row = chance.choice((("copy", chance.choice(names), 7), ("set", chance.choice(names), "add", 1, 2)))
            kept.insert(at, (None, row))
        elif kind < 0.7 and len(kept) > 1 and at < len(kept) - 1:
            kept.pop(at)
        elif kept[at][1][0] in ("copy", "out"):
            index, row = kept[at]
            kept[at] = (index, (*row[:-1], chance.choice((chance.choice(names), 5))))
    led = {index: at for at, (index, _) in enumerate(kept) if index is not None}
    made = []
    for index, row in kept:
        if row[0] in ("if", "go"):
            row = (*row[:-1], min([at for old, at in led.items() if old >= row[-1]], default=0))
        made.append(row)
    return tuple(made), led


def edited(chance, program):
    """An edit by chance of a program: rows come, go and change, and some are not told."""
    procedures, pairs = [], []
    for name, parameters, rows in procedures_of(program):
        made, led = edited_rows(chance, rows, program.variables_of(name) or ["x"])
        procedures.append((name, parameters, made))
        pairs += [((name, old), (name, new)) for old, new in led.items()]
    other = Program(procedures)
    told = []
    for spot, to in pairs:
        if chance.random() < 0.1:
            to = (to[0], chance.randrange(len(other.procedure(to[0])[2])))
        row, led = program.row(spot), other.row(to)
        if chance.random() < 0.95 and (row[0] != "call" or led[:2] == row[:2]):
            told.append((spot, to))
    return Edit(program, other, told)


def dependence(columns):
    """Numbers, not all 0, by which columns sum up to nothing, as fractions, if there are any; the last one not 0."""
    taken = []
    for many, column in enumerate(columns):
        left = {key: Fraction(number) for key, number in column.items() if number}
        numbers = {many: Fraction(1)}
        for pivot, other, other_numbers in taken:
            share = left.get(pivot, 0) / other[pivot]
            for whole, part in ((left, other), (numbers, other_numbers)):
                for key, number in part.items():
                    whole[key] = whole.get(key, 0) - share * number
        left = {key: number for key, number in left.items() if number}
        if not left:
            return [numbers.get(at, Fraction(0)) for at in range(many + 1)]
        taken.append((max(left, key=repr), left, numbers))
    return None


class Told(unittest.TestCase):
    """A test that asks which error a call raises, and what the error tells."""

    def told(self, error, function, *arguments, **named):
        with self.assertRaises(error) as caught:
            function(*arguments, **named)
        self.assertIs(caught.exception.__class__, error)
        return caught.exception.told

    def most(self, function, *arguments, **named):
        with self.assertRaises(TooMany) as caught:
            function(*arguments, **named)
        return caught.exception.most

    def refuses_all(self, error, values, function, *ahead, behind=()):
        """Each of the values raises the error, which tells just it."""
        for value in values:
            self.assertIs(self.told(error, function, *ahead, value, *behind), value, repr(type(value)))

    def likes_none(self, values, function, *ahead):
        """The function tells False of each of the values, and nothing else."""
        for value in values:
            self.assertIs(function(*ahead, value), False)


def edit_back(edit):
    """The edit that leads back to the first program, from those spots to which just one leads."""
    pairs = edit.pairs()
    goals = [to for _, to in pairs]
    found = [(to, spot) for spot, to in pairs if goals.count(to) == 1]
    return Edit(edit.new(), edit.old(), [(to, spot) for to, spot in found
                                         if edit.new().row(to)[0] != "call"
                                         or edit.new().row(to)[:2] == edit.old().row(spot)[:2]])


def random_setting(chance, most=50):
    """A setting by chance, with made code, and with edits there and back, one of them the identity."""
    run = random_run(chance, most)
    program = run.program()
    there = edited(chance, program)
    edits = chance.sample([Edit.same(program), there, edit_back(there), Edit.same(there.new())], 4)
    mades = [right_made(chance, program, stretch) for stretch in stretches(program)]
    return Setting(program, run.inputs(), stretches=[made for made in mades if is_right(program, made)],
                   edits=edits[:chance.choice((2, 3, 4, 4))])


def gone_anew(run, floor, gone, t):
    """The cells that are still gone at a moment, by the words of the document."""
    borns = [frame[0] for frame in run.state(t)[1]]
    written = [cell for step in range(floor, t) for cell in writes_of(run, step)]
    written += [change[1:3] for change in run.changes() if change[0] <= t]
    return sorted(cell for cell in gone if cell[0] in borns and cell not in written)


def stage_anew(setting, legs):
    """The run, the floor and the gone cells of a road, leg by leg; None if a leg may not stand."""
    run, floor, gone = Run(setting.program(), setting.inputs()), 0, []
    for leg in legs:
        if leg[0] == "change":
            if leg[1] < floor or any(leg[1] < change[0] for change in run.changes()):
                return None
            try:
                run = Run(run.program(), run.inputs(), (*run.changes(), leg[1:]))
            except NoChanges:
                return None
            continue
        _, t, number = leg
        edit = setting.edits()[number]
        if edit.old() != run.program() or not floor <= t <= run.last():
            return None
        if any(t < change[0] for change in run.changes()):
            return None
        lost = gone_anew(run, floor, gone, t)
        to = goal(run, edit, t, lost)
        if to is None:
            return None
        gone = gone_behind(run, edit, t, lost)
        run, floor = Run(edit.new(), run.inputs()), to
    return run, floor, gone


def view_anew(run, floor, gone, t):
    lost = gone_anew(run, floor, gone, t)
    moment, frames, asked, outputs, result = run.state(t)
    seen = []
    for born, name, index, values in frames:
        pairs = tuple((one, None if (born, one) in lost else dict(values).get(one, 0))
                      for one in run.program().variables_of(name))
        seen.append((born, name, index, pairs))
    return (moment, tuple(seen), asked, outputs, result)


def random_leg(chance, setting, run, floor):
    """A leg that mostly may stand, by the run and the floor of a road."""
    last = max([floor] + [change[0] for change in run.changes()])
    if setting.edits() and chance.random() < 0.5:
        numbers = [number for number, edit in enumerate(setting.edits()) if edit.old() == run.program()]
        number = chance.choice(numbers or [0])
        return ("land", chance.randrange(max(last, run.last() - 20), run.last() + 1), number)
    t = chance.randrange(last, run.last()) if last < run.last() else last
    frames = run.state(t)[1]
    if not frames:
        return ("change", t, 0, "x", 1)
    frame = chance.choice(frames)
    names = run.program().variables_of(frame[1]) or ["x"]
    return ("change", t, frame[0], chance.choice(names), chance.choice((0, 1, 2, chance.randrange(9973))))


def random_legs(chance, setting, most=5):
    """Legs of a road by chance, and what they lead to."""
    legs, stage = (), stage_anew(setting, ())
    for _ in range(chance.randrange(most + 1)):
        leg = random_leg(chance, setting, *stage[:2])
        try:
            behind = stage_anew(setting, (*legs, leg))
        except TooMany:
            continue
        if behind is not None:
            legs, stage = (*legs, leg), behind
    return legs, stage
