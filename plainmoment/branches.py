"""Branches: runs with changes beside their main runs, and where two runs are unlike or joined."""

from plainmoment.errors import NoChanges, NoRun
from plainmoment.runs import Run, need_run, need_run_of
from plainmoment.states import cell_in, value_of
from plainmoment.tapes import olds_of


def branch_of(run, changes):
    """The run of the same program and inputs with the changes of a run and, behind them, these."""
    need_run(run)
    if not isinstance(changes, (list, tuple)):
        raise NoChanges(None)
    return Run(run.program(), run.inputs(), run.changes() + tuple(changes))


def main_of(run):
    """The run of the same program and inputs without changes."""
    need_run(run)
    return Run(run.program(), run.inputs())


def idle_changes(run):
    """The list of the indexes of the changes that put a value where it stands already, ascending."""
    need_run(run)
    return [index for index, pair in enumerate(zip(run.changes(), olds_of(run))) if pair[0][3] == pair[1]]


def lean_changes(run):
    """The tuple of the lean changes of a run, ascending by moment, born and variable."""
    need_run(run)
    lean = []
    for t, born, variable in sorted({change[:3] for change in run.changes()}):
        value = run.cell_at(t, (born, variable))
        if cell_in(run.program(), run.ahead(t), (born, variable)) != value:
            lean.append((t, born, variable, value))
    return tuple(lean)


def _need_two(one, other):
    need_run(one)
    need_run_of(one.program(), other)


def _unlike_within(program, frame, other):
    """The cells of two frames of one born and one procedure at which they are unlike."""
    variables = program.variables_of(frame[1])
    return [(frame[0], name) for name in variables if value_of(frame[3], name) != value_of(other[3], name)]


def unlike_in(program, state, other):
    """The list of the cells at which two states are unlike, ascending; nothing is asked of what is handed in."""
    frames = {frame[:2]: frame for frame in other[1]}
    found = []
    for frame in state[1]:
        if frame[:2] in frames:
            found.extend(_unlike_within(program, frame, frames[frame[:2]]))
    return found


def unlike_cells(one, other, t):
    """The list of the cells at which two runs of a program are unlike at a moment, ascending."""
    _need_two(one, other)
    return unlike_in(one.program(), one.state(t), other.state(t))


def joined_at(one, other):
    """The moment from which on two runs of a program with equal inputs are joined, or None."""
    _need_two(one, other)
    if one.inputs() != other.inputs():
        raise NoRun(other)
    if one.last() != other.last():
        return None
    joined = None
    for t in range(one.last(), -1, -1):
        if one.state(t) != other.state(t):
            return joined
        joined = t
    return joined
