"""Two what-ifs: what the changes of two runs reach beside the plain run, and what they make together."""

from plainmoment.branches import main_of, unlike_in
from plainmoment.causes import read_by
from plainmoment.errors import NoRun
from plainmoment.runs import Run, by_moments, need_moment, need_run
from plainmoment.states import with_cell

CONFLICTS = ("rows", "both", "change", "step")


def plain_run(run):
    """The run of the same program and inputs without changes."""
    return main_of(run)


def _spot_of(run, t):
    return None if t == run.last() else run.spot_at(t)


def _first_other_row(plain, run):
    """The least moment at which a run stands at another spot than the plain one, or just one has ended, or None."""
    for t in range(min(plain.last(), run.last()) + 1):
        if _spot_of(plain, t) != _spot_of(run, t):
            return t
    return None


def _cells_reached(plain, run, t):
    return unlike_in(plain.program(), plain.state(t), run.state(t))


def _reach(plain, run):
    """The ascending list of the pairs of moments and cells that the changes of a run reach."""
    moments = list(range(min(plain.last(), run.last()) + 1))
    return [(t, cell) for t in moments for cell in _cells_reached(plain, run, t)]


def lot_of(plain, run):
    """What is asked of a lot of changes: its run, the dict of its reach, and where it leaves the plain rows."""
    return (run, {place: True for place in _reach(plain, run)}, _first_other_row(plain, run))


def reach_of(run):
    """The list of the pairs of moments and cells that the changes of a run reach, ascending."""
    return _reach(plain_run(run), run)


def keeps_rows(run):
    """Whether a run stands at the spots of the plain run at each step, and ends when that does."""
    return _first_other_row(plain_run(run), run) is None


def _row_conflicts(lots):
    return [(lot[2], 0, number) for number, lot in enumerate(lots) if lot[2] is not None]


def _both_conflicts(one, other):
    return [(t, 1, cell) for t, cell in one[1] if (t, cell) in other[1]]


def _change_conflicts(one, other):
    """The conflicts of the changes of the first lot with the reach of the second one."""
    places = [(change[0], change[1:3]) for change in one[0].changes()]
    return [(t, 2, cell) for t, cell in places if (t, cell) in other[1]]


def _step_conflicts(plain, one, other):
    found = []
    for t in range(plain.last()):
        cells = read_by(plain, t)
        firsts = [cell for cell in cells if (t, cell) in one[1]]
        seconds = [cell for cell in cells if (t, cell) in other[1]]
        found.extend([(t, 3, (first, second)) for first in firsts for second in seconds])
    return found


def conflicts_between(plain, one, other):
    """The conflicts of two lots, in order; nothing is asked of what is handed in."""
    found = _row_conflicts([one, other]) + _both_conflicts(one, other)
    found.extend(_change_conflicts(one, other) + _change_conflicts(other, one))
    found.extend(_step_conflicts(plain, one, other))
    return [(CONFLICTS[rank], t, part) for t, rank, part in sorted(set(found))]


def _need_two(one, other):
    need_run(one)
    if not isinstance(other, Run) or other.program() != one.program() or other.inputs() != one.inputs():
        raise NoRun(other)


def conflicts_of(one, other):
    """The list of the conflicts of the changes of two runs, by moments, words and cells."""
    _need_two(one, other)
    plain = plain_run(one)
    return conflicts_between(plain, lot_of(plain, one), lot_of(plain, other))


def are_apart(one, other):
    """Whether the changes of two runs have no conflicts."""
    return len(conflicts_of(one, other)) == 0


def joined_run(one, other):
    """The run of the changes of two runs together, at one moment those of the first one ahead."""
    _need_two(one, other)
    return Run(one.program(), one.inputs(), by_moments(one.changes() + other.changes()))


def _unlike_or(plain, values):
    """The first of some values that is unlike the plain one, otherwise this."""
    unlike = [value for value in values if value != plain]
    return unlike[0] if len(unlike) > 0 else plain


def _put_together(plain, runs, t):
    state = plain.state(t)
    for run in runs:
        for cell in _cells_reached(plain, run, t):
            state = with_cell(plain.program(), state, cell, run.cell_at(t, cell))
    moment, frames, asked, outputs, result = state
    others = [run.state(t) for run in runs]
    told = [_unlike_or(output, [other[3][index] for other in others]) for index, output in enumerate(outputs)]
    return (moment, frames, asked, tuple(told), _unlike_or(result, [other[4] for other in others]))


def put_together(one, other, moment):
    """The plain state at a moment, with what each of two runs that are apart makes of it."""
    if not are_apart(one, other):
        raise NoRun(other)
    plain = plain_run(one)
    need_moment(plain, moment)
    return _put_together(plain, [one, other], moment)
