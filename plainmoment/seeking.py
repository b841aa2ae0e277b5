"""Conditions on states, and the moments of a run at which they hold."""

from plainmoment.checks import is_listed, is_name, is_tuple_of, is_value, is_within
from plainmoment.errors import NoCondition
from plainmoment.programs import need_program
from plainmoment.rows import is_row_index
from plainmoment.runs import need_moment, need_run
from plainmoment.states import MOST_STEPS, frame_of, value_of

MOST_WITHIN = 3
MOST_CONDITIONS = 6
PARTS = {"not": 1, "both": 2, "either": 2}


def _is_count(value):
    return is_within(value, 0, MOST_STEPS)


def is_spot_form(value):
    """Whether any value is a spot of some program."""
    return is_tuple_of(value, 2) and is_name(value[0]) and is_row_index(value[1])


def _is_plain_form(value):
    word, parts = value[0], value[1:]
    if word in ("cell", "above"):
        return len(parts) == 3 and _is_count(parts[0]) and is_name(parts[1]) and is_value(parts[2])
    if word in ("row", "beneath"):
        return len(parts) == 1 and is_spot_form(parts[0])
    if word == "output":
        return len(parts) == 2 and _is_count(parts[0]) and is_value(parts[1])
    if word in ("outputs", "depth"):
        return len(parts) == 1 and _is_count(parts[0])
    return word == "ended" and len(parts) == 0


def _is_form(value, most):
    if most == 0 or not isinstance(value, tuple) or len(value) == 0 or not isinstance(value[0], str):
        return False
    if value[0] not in PARTS:
        return _is_plain_form(value)
    return len(value) == PARTS[value[0]] + 1 and all([_is_form(part, most - 1) for part in value[1:]])


def is_condition_form(value):
    """Whether any value is a condition of some program."""
    return _is_form(value, MOST_WITHIN)


def plain_parts(condition):
    """The conditions in a condition, or itself, that have no others in them, from the left."""
    if condition[0] not in PARTS:
        return [condition]
    return [plain for part in condition[1:] for plain in plain_parts(part)]


def is_condition_of(program, value):
    """Whether any value is a condition of a program; nothing is asked of the program."""
    if not is_condition_form(value):
        return False
    spots = [plain[1] for plain in plain_parts(value) if plain[0] in ("row", "beneath")]
    return all([program.has_spot(spot) for spot in spots])


def is_condition(program, value):
    """Whether any value is a condition of a program."""
    need_program(program)
    return is_condition_of(program, value)


def cells_in(condition):
    """The ascending tuple of the cells that a condition of any program asks."""
    if not is_condition_form(condition):
        raise NoCondition(condition)
    return tuple(sorted({plain[1:3] for plain in plain_parts(condition) if plain[0] in ("cell", "above")}))


def _cell_holds(program, state, condition):
    word, born, variable, value = condition
    at = frame_of(program, state, (born, variable))
    if at is None:
        return False
    held = value_of(state[1][at][3], variable)
    return held == value if word == "cell" else held > value


def _plain_holds(program, state, condition):
    _, frames, _, outputs, _ = state
    word = condition[0]
    if word in ("cell", "above"):
        return _cell_holds(program, state, condition)
    if word == "row":
        return len(frames) > 0 and frames[-1][1:3] == condition[1]
    if word == "beneath":
        return any([frame[1:3] == condition[1] for frame in frames[:-1]])
    if word == "output":
        return len(outputs) > condition[1] and outputs[condition[1]] == condition[2]
    if word == "outputs":
        return len(outputs) >= condition[1]
    return len(frames) >= condition[1] if word == "depth" else len(frames) == 0


def holds_in(program, state, condition):
    """Whether a condition holds in a state; nothing is asked of what is handed in."""
    if condition[0] not in PARTS:
        return _plain_holds(program, state, condition)
    held = [holds_in(program, state, part) for part in condition[1:]]
    if condition[0] == "not":
        return not held[0]
    return all(held) if condition[0] == "both" else any(held)


def _holds(run, t, condition):
    return holds_in(run.program(), run.state(t), condition)


def _need_condition(run, condition):
    if not is_condition_of(run.program(), condition):
        raise NoCondition(condition)


def _need_all(run, t, condition):
    need_run(run)
    need_moment(run, t)
    _need_condition(run, condition)


def holds_at(run, t, condition):
    """Whether a condition holds at a moment, behind its changes."""
    _need_all(run, t, condition)
    return _holds(run, t, condition)


def spells_of(run, condition):
    """The tuple of the pairs of moments between which a condition holds, each as long as can be."""
    need_run(run)
    _need_condition(run, condition)
    spells = []
    for t in range(run.last() + 1):
        if not _holds(run, t, condition):
            continue
        if len(spells) > 0 and spells[-1][1] == t - 1:
            spells[-1] = (spells[-1][0], t)
        else:
            spells.append((t, t))
    return tuple(spells)


def _first_among(run, moments, condition):
    for t in moments:
        if _holds(run, t, condition):
            return t
    return None


def first_moment(run, t, condition):
    """The least moment from a moment on at which a condition holds, None if there is none."""
    _need_all(run, t, condition)
    return _first_among(run, list(range(t, run.last() + 1)), condition)


def next_moment(run, t, condition):
    """The least moment above a moment at which a condition holds, None if there is none."""
    _need_all(run, t, condition)
    return _first_among(run, list(range(t + 1, run.last() + 1)), condition)


def last_moment(run, t, condition):
    """The greatest moment below a moment at which a condition holds, None if there is none."""
    _need_all(run, t, condition)
    return _first_among(run, list(range(t - 1, -1, -1)), condition)


def _need_conditions(run, t, conditions):
    need_run(run)
    need_moment(run, t)
    if not is_listed(conditions, MOST_CONDITIONS) or len(conditions) == 0:
        raise NoCondition(None)
    for condition in conditions:
        _need_condition(run, condition)


def soonest_moments(run, t, conditions):
    """The tuple of the soonest moments at which conditions follow one another, None if there are none."""
    _need_conditions(run, t, conditions)
    found = []
    begin = t
    for condition in conditions:
        moment = _first_among(run, list(range(begin, run.last() + 1)), condition)
        if moment is None:
            return None
        found.append(moment)
        begin = moment + 1
    return tuple(found)


def follows_at(run, t, conditions, value):
    """Whether any value is a tuple of moments at which conditions follow one another from a moment on."""
    _need_conditions(run, t, conditions)
    if not is_tuple_of(value, len(conditions)):
        return False
    begin = t
    for moment, condition in zip(value, conditions):
        if not is_within(moment, begin, run.last()) or not _holds(run, moment, condition):
            return False
        begin = moment + 1
    return True
