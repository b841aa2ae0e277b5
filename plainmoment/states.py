"""States of runs: their form, the first one, and the step from one to the next."""

from plainmoment.checks import is_listed, is_name, is_number, is_tuple_of, is_value, is_within
from plainmoment.errors import NoInputs, NoState, TooMany
from plainmoment.programs import need_program
from plainmoment.rows import reckoned

MOST_STEPS = 600
MOST_FRAMES = 10
MOST_INPUTS = 12


def are_inputs(value):
    """Whether any value is inputs of a run."""
    return is_listed(value, MOST_INPUTS) and all([is_value(number) for number in value])


def need_inputs(inputs):
    """Refuses any value that is no inputs."""
    if not are_inputs(inputs):
        raise NoInputs(inputs)


def are_pairs(value):
    """Whether any value is the values of a frame by itself: pairs, ascending, none of them with 0."""
    if not isinstance(value, tuple):
        return False
    ahead = ""
    for pair in value:
        if not is_tuple_of(pair, 2) or not is_name(pair[0]) or pair[0] <= ahead:
            return False
        if not is_value(pair[1]) or pair[1] == 0:
            return False
        ahead = pair[0]
    return True


def _is_frame(program, value):
    if not is_tuple_of(value, 4) or not is_within(value[0], 0, MOST_STEPS):
        return False
    if not program.has_spot(value[1:3]) or not are_pairs(value[3]):
        return False
    variables = program.variables_of(value[1])
    return all([variable in variables for variable, _ in value[3]])


def _stands_upon(program, frame, beneath):
    row = program.row(beneath[1:3])
    return frame[0] > beneath[0] and row[0] == "call" and row[2] == frame[1]


def _are_frames(program, frames, moment):
    if len(frames) > MOST_FRAMES or not all([_is_frame(program, frame) for frame in frames]):
        return False
    if frames[0][0] != 0 or frames[0][1] != program.names()[0] or frames[-1][0] > moment:
        return False
    return all([_stands_upon(program, frame, beneath) for beneath, frame in zip(frames, frames[1:])])


def is_state(program, value):
    """Whether any value has the form of a state of the program."""
    need_program(program)
    if not is_tuple_of(value, 5):
        return False
    moment, frames, asked, outputs, result = value
    if not is_within(moment, 0, MOST_STEPS) or not is_within(asked, 0, moment):
        return False
    if not isinstance(frames, tuple) or not isinstance(outputs, tuple):
        return False
    if not all([is_value(output) for output in outputs]):
        return False
    if len(frames) == 0:
        return is_value(result)
    return result is None and _are_frames(program, frames, moment)


def need_state(program, state):
    """Refuses any value that is no state of the program."""
    if not is_state(program, state):
        raise NoState(state)


def first_state(program):
    """The state at moment 0."""
    need_program(program)
    return (0, ((0, program.names()[0], 0, ()),), 0, (), None)


def value_of(values, variable):
    """The value that a variable has by the values of a frame."""
    for name, value in values:
        if name == variable:
            return value
    return 0


def with_value(values, variable, value):
    """The values of a frame with this value at the variable."""
    others = [pair for pair in values if pair[0] != variable]
    if value != 0:
        others.append((variable, value))
    return tuple(sorted(others))


def operand_worth(values, operand):
    """The value of an operand by the values of a frame."""
    return value_of(values, operand) if is_name(operand) else operand


def row_on_top(program, state):
    """The row at which the top frame of a state stands that has not ended."""
    return program.row(state[1][-1][1:3])


def _led_into(program, state, row):
    moment, frames, asked, outputs, result = state
    if len(frames) == MOST_FRAMES:
        raise TooMany(MOST_FRAMES)
    values = ()
    for parameter, operand in zip(program.procedure(row[2])[1], row[3]):
        values = with_value(values, parameter, operand_worth(frames[-1][3], operand))
    return (moment + 1, frames + ((moment + 1, row[2], 0, values),), asked, outputs, result)


def _led_out(program, state, row):
    moment, frames, asked, outputs, _ = state
    value = operand_worth(frames[-1][3], row[1])
    if len(frames) == 1:
        return (moment + 1, (), asked, outputs, value)
    born, name, index, values = frames[-2]
    caller = (born, name, index + 1, with_value(values, program.row((name, index))[1], value))
    return (moment + 1, frames[:-2] + (caller,), asked, outputs, None)


def input_at(inputs, number):
    """What the get of a number finds."""
    return inputs[number] if number < len(inputs) else 0


def _made_by(row, values, inputs, asked):
    if row[0] == "get":
        return input_at(inputs, asked)
    if row[0] == "copy":
        return operand_worth(values, row[2])
    return reckoned(row[2], operand_worth(values, row[3]), operand_worth(values, row[4]))


def _led_along(inputs, state, row):
    moment, frames, asked, outputs, result = state
    born, name, index, values = frames[-1]
    word = row[0]
    target = index + 1
    if word == "out":
        outputs = outputs + (operand_worth(values, row[1]),)
    elif word == "go" or (word == "if" and operand_worth(values, row[1]) != 0):
        target = row[-1]
    elif word != "if":
        values = with_value(values, row[1], _made_by(row, values, inputs, asked))
    if word == "get":
        asked = asked + 1
    return (moment + 1, frames[:-1] + ((born, name, target, values),), asked, outputs, result)


def led_on_by_step(program, inputs, state):
    """The state behind the step that a state, not ended, leads to; nothing is asked of what is handed in."""
    row = row_on_top(program, state)
    if row[0] == "call":
        return _led_into(program, state, row)
    if row[0] == "back":
        return _led_out(program, state, row)
    return _led_along(inputs, state, row)


def next_state(program, inputs, state):
    """The state behind the next step of a state that has not ended."""
    need_program(program)
    need_inputs(inputs)
    if not is_state(program, state) or len(state[1]) == 0:
        raise NoState(state)
    return led_on_by_step(program, inputs, state)


def frame_of(program, state, cell):
    """The index of the frame in which any value is a cell of a state, None if it is none there."""
    if not is_tuple_of(cell, 2) or not is_number(cell[0]) or not is_name(cell[1]):
        return None
    for index, frame in enumerate(state[1]):
        if frame[0] == cell[0]:
            return index if cell[1] in program.variables_of(frame[1]) else None
    return None


def cell_in(program, state, cell):
    """The value of a cell in a state, None if any value is no cell there."""
    need_program(program)
    need_state(program, state)
    at = frame_of(program, state, cell)
    return None if at is None else value_of(state[1][at][3], cell[1])


def with_cell(program, state, cell, value):
    """The state in which a cell that stands has this value."""
    moment, frames, asked, outputs, result = state
    at = frame_of(program, state, cell)
    born, name, index, values = frames[at]
    changed = (born, name, index, with_value(values, cell[1], value))
    return (moment, frames[:at] + (changed,) + frames[at + 1:], asked, outputs, result)
