"""Keeps of steps, tapes of runs, and the way back by them."""

from plainmoment.checks import MODULUS, is_name, is_number, is_tuple_of, is_value, is_within
from plainmoment.errors import NoChanges, NoMoment, NoRow, NoState, NoTape, NoValue
from plainmoment.programs import need_program, need_spot
from plainmoment.rows import is_row, is_row_index, reckoned
from plainmoment.runs import are_changes, need_run
from plainmoment.states import (
    MOST_STEPS, are_pairs, cell_in, is_state, led_on_by_step, need_inputs, need_state, operand_worth, row_on_top,
    value_of, with_cell, with_value)


def _comers(program, spot):
    name = spot[0]
    many = len(program.procedure(name)[2])
    return tuple([index for index in range(many) if spot in program.nexts((name, index))])


def comers(program, spot):
    """The tuple of the indexes of the rows from which a step may lead to a spot, ascending."""
    need_spot(program, spot)
    return _comers(program, spot)


def _is_undoable(row):
    x, op, one, other = row[1:]
    if op == "add":
        return x in (one, other)
    if op == "sub":
        return (one == x) != (other == x)
    if op == "mul":
        return (one == x and is_number(other) and other != 0) or (other == x and is_number(one) and one != 0)
    return False


def _keeps_old(row):
    if row[0] == "get":
        return True
    if row[0] == "copy":
        return row[1] != row[2]
    return row[0] == "set" and not _is_undoable(row)


def keeps_old(row):
    """Whether a row is a set, copy or get that keeps the old value of its x."""
    if not is_row(row):
        raise NoRow(row)
    return _keeps_old(row)


def _inverse(value):
    """The value by which a value other than 0 makes 1, by Fermat: its power of the prime less 2."""
    made, power, left = 1, value, MODULUS - 2
    while left > 0:
        if left % 2 == 1:
            made = made * power % MODULUS
        power = power * power % MODULUS
        left = left // 2
    return made


def _other_operand(row):
    return row[4] if row[3] == row[1] else row[3]


def _value_ahead(row, other, value):
    if row[0] == "copy":
        return value
    x, op, one, two = row[1:]
    if one == two:
        return value * _inverse(2) % MODULUS
    part = _other_operand(row)
    known = part if is_number(part) else other
    if op == "add":
        return (value - known) % MODULUS
    if op == "mul":
        return value * _inverse(known) % MODULUS
    return (value + known) % MODULUS if one == x else (known - value) % MODULUS


def value_ahead(row, other, value):
    """The value that x had ahead of an undoable set or a copy of itself, if it is value behind it."""
    if not is_row(row) or row[0] not in ("set", "copy") or _keeps_old(row):
        raise NoRow(row)
    if not is_value(other):
        raise NoValue(other)
    if not is_value(value):
        raise NoValue(value)
    return _value_ahead(row, other, value)


def _part_of(row, part, other, value):
    if is_number(part):
        return part
    return value if part == row[1] else other


def _made_from(row, other, value):
    """What a row that keeps makes of x, if x has the value, and each other variable the other one."""
    if row[0] == "get":
        return 0  # What is got is the same whatever x has, so any number does.
    if row[0] == "copy":
        return _part_of(row, row[2], other, value)
    return reckoned(row[2], _part_of(row, row[3], other, value), _part_of(row, row[4], other, value))


def told_need(row):
    """The least need of a row, None of one that keeps nothing."""
    if not keeps_old(row):
        return None
    # Each row that keeps has a need with 0 for the other variables, so the least one has it, too.
    for one in range(MODULUS):
        made = _made_from(row, 0, one)
        for two in range(one + 1, MODULUS):
            if _made_from(row, 0, two) == made:
                return (0, one, two)
    return None


def shows_need(row, value):
    """Whether any value is a need of a row."""
    if not keeps_old(row) or not is_tuple_of(value, 3):
        return False
    if not all([is_value(part) for part in value]):
        return False
    other, one, two = value
    return one < two and _made_from(row, other, one) == _made_from(row, other, two)


def _old_ahead(program, state, row):
    frames = state[1]
    if row[0] == "back" and len(frames) > 1:
        caller = frames[-2]
        return value_of(caller[3], program.row(caller[1:3])[1])
    return value_of(frames[-1][3], row[1]) if _keeps_old(row) else None


def _comer_of(program, state, row, behind):
    """The row from which the step led to the top frame's spot, where there are several to choose from."""
    if row[0] == "call" or len(behind[1]) == 0:
        return None
    if len(_comers(program, behind[1][-1][1:3])) < 2:
        return None
    return state[1][-2][2] if row[0] == "back" else state[1][-1][2]


def _keep_between(program, state, behind):
    """The keep of the step that leads from a state to the one behind it."""
    row = row_on_top(program, state)
    born, _, index, values = state[1][-1]
    frame = (born, index, values) if row[0] == "back" else None
    return (_old_ahead(program, state, row), frame, _comer_of(program, state, row, behind))


def keep_of(run, t):
    """The keep of step t of a run."""
    need_run(run)
    if not is_within(t, 0, run.last() - 1):
        raise NoMoment(t)
    return _keep_between(run.program(), run.state(t), run.ahead(t + 1))


def olds_of(run):
    """The tuple of the keeps of the changes of a run; nothing is asked of what is handed in."""
    olds = []
    state = run.ahead(0)
    for t, born, variable, value in run.changes():
        if t != state[0]:
            state = run.ahead(t)
        olds.append(cell_in(run.program(), state, (born, variable)))
        state = with_cell(run.program(), state, (born, variable), value)
    return tuple(olds)


def tape_of(run):
    """The tape of a run: the pair of the keeps of its steps and those of its changes."""
    need_run(run)
    return (tuple([keep_of(run, t) for t in range(run.last())]), olds_of(run))


def _is_kept_frame(value):
    if not is_tuple_of(value, 3) or not is_within(value[0], 0, MOST_STEPS):
        return False
    return is_row_index(value[1]) and are_pairs(value[2])


def _is_keep(value):
    if not is_tuple_of(value, 3):
        return False
    old, frame, comer = value
    if old is not None and not is_value(old):
        return False
    return (frame is None or _is_kept_frame(frame)) and (comer is None or is_row_index(comer))


def _row_ahead(program, spot, comer):
    many = _comers(program, spot)
    if len(many) == 1:
        return many[0] if comer is None else None
    return comer if comer in many else None


def _before_last_back(program, state, frame):
    if frame is None:
        return None
    born, index, values = frame
    return (state[0] - 1, ((born, program.names()[0], index, values),), state[2], state[3], None)


def _before_back(program, state, keep, index):
    old, frame, _ = keep
    if old is None or frame is None:
        return None
    moment, frames, asked, outputs, result = state
    born, name, _, values = frames[-1]
    row = program.row((name, index))
    caller = (born, name, index, with_value(values, row[1], old))
    callee = (frame[0], row[2], frame[1], frame[2])
    return (moment - 1, frames[:-1] + (caller, callee), asked, outputs, result)


def _values_before(row, values, old):
    if row[0] not in ("set", "copy", "get"):
        return values
    if _keeps_old(row):
        return None if old is None else with_value(values, row[1], old)
    other = operand_worth(values, _other_operand(row)) if row[0] == "set" else 0
    return with_value(values, row[1], _value_ahead(row, other, value_of(values, row[1])))


def _before_row(program, state, keep, index):
    moment, frames, asked, outputs, result = state
    born, name, _, values = frames[-1]
    row = program.row((name, index))
    before = _values_before(row, values, keep[0])
    if before is None:
        return None
    if row[0] == "get":
        asked = asked - 1
    if row[0] == "out":
        outputs = outputs[:-1]
    return (moment - 1, frames[:-1] + ((born, name, index, before),), asked, outputs, result)


def _state_before(program, state, keep):
    """The one tuple that can be ahead of a step with this keep; None if there is none."""
    moment, frames, asked, outputs, result = state
    if len(frames) == 0:
        return _before_last_back(program, state, keep[1])
    if frames[-1][0] == moment:
        return (moment - 1, frames[:-1], asked, outputs, result)
    index = _row_ahead(program, frames[-1][1:3], keep[2])
    if index is None:
        return None
    if program.row((frames[-1][1], index))[0] == "call":
        return _before_back(program, state, keep, index)
    return _before_row(program, state, keep, index)


def _undone(program, inputs, state, keep):
    """The state ahead of the step that has this keep and leads to the state; None if no step does so."""
    before = _state_before(program, state, keep)
    if not is_state(program, before):
        return None
    # Only a back keeps a frame; the one kept may stand at a call, which could have no room to be done.
    if (row_on_top(program, before)[0] == "back") != (keep[1] is not None):
        return None
    if led_on_by_step(program, inputs, before) != state or _keep_between(program, before, state) != keep:
        return None
    return before


def undone(program, inputs, state, keep):
    """The state ahead of the step that leads to a state and has this keep."""
    need_program(program)
    need_inputs(inputs)
    if not is_state(program, state) or state[0] == 0:
        raise NoState(state)
    before = _undone(program, inputs, state, keep) if _is_keep(keep) else None
    if before is None:
        raise NoTape(keep)
    return before


def _is_tape_form(value, steps, changes):
    if not is_tuple_of(value, 2) or not is_tuple_of(value[0], steps) or not is_tuple_of(value[1], changes):
        return False
    return all([_is_keep(keep) for keep in value[0]]) and all([is_value(old) for old in value[1]])


def _taken_back(program, state, changes, olds):
    """The state ahead of the changes of its moment, those told being the last ones of them."""
    ahead = state
    for change, old in reversed(list(zip(changes, olds))):
        if change[0] != state[0]:
            continue
        cell = change[1:3]
        if cell_in(program, ahead, cell) != change[3]:
            raise NoTape(state[0])
        ahead = with_cell(program, ahead, cell, old)
    return ahead


def state_back(program, inputs, changes, state, tape):
    """The state at the moment ahead of that of a state, None ahead of moment 0; the forms are not asked."""
    keeps, olds = tape
    ahead = _taken_back(program, state, changes, olds)
    t = ahead[0]
    if t == 0:
        return None
    before = _undone(program, inputs, ahead, keeps[t - 1])
    if before is None:
        raise NoTape(t)
    return before


def played_back(program, inputs, changes, state, tape):
    """The list of the states of a run, from the one handed in down to moment 0, told by its tape."""
    need_program(program)
    need_inputs(inputs)
    if not are_changes(changes):
        raise NoChanges(changes)
    need_state(program, state)
    if len(changes) > 0 and changes[-1][0] > state[0]:
        raise NoChanges(changes)
    if not _is_tape_form(tape, state[0], len(changes)):
        raise NoTape(None)
    states = []
    while state is not None:
        states.append(state)
        state = state_back(program, inputs, changes, state, tape)
    return states


def is_tape(run, value):
    """Whether any value is the tape of a run: no other one leads back by the states of the run."""
    need_run(run)
    return _is_tape_form(value, run.last(), len(run.changes())) and value == tape_of(run)
