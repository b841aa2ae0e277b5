"""Runs: the states of a program on inputs, with changes, from moment 0 to the last one."""

from plainmoment.checks import is_listed, is_name, is_tuple_of, is_value, is_within
from plainmoment.errors import NoCell, NoChanges, NoMoment, NoRun, TooMany
from plainmoment.programs import need_program
from plainmoment.states import MOST_STEPS, first_state, frame_of, led_on_by_step, need_inputs, value_of, with_cell

MOST_CHANGES = 8


def is_change(value):
    """Whether any value has the form of a change."""
    if not is_tuple_of(value, 4) or not is_within(value[0], 0, MOST_STEPS) or not is_within(value[1], 0, MOST_STEPS):
        return False
    return is_name(value[2]) and is_value(value[3])


def first_wrong_change(changes):
    """The index of the first of listed changes that is none by its form or its moment, or None."""
    ahead = 0
    for index, change in enumerate(changes):
        if not is_change(change) or change[0] < ahead:
            return index
        ahead = change[0]
    return None


def are_changes(value):
    """Whether any value is changes by their form."""
    return is_listed(value, MOST_CHANGES) and first_wrong_change(value) is None


def _moment_of(change):
    return change[0]


def by_moments(changes):
    """The list of changes by their moments, those of one moment as they were."""
    return sorted(changes, key=_moment_of)


def _changed(program, ahead, changes, done):
    state = ahead
    while done < len(changes) and changes[done][0] == state[0]:
        cell = changes[done][1:3]
        if frame_of(program, state, cell) is None:
            raise NoChanges(done)
        state = with_cell(program, state, cell, changes[done][3])
        done = done + 1
    return state, done


def _states_of(program, inputs, changes):
    aheads = [first_state(program)]
    state, done = _changed(program, aheads[0], changes, 0)
    states = [state]
    while len(state[1]) > 0:
        if state[0] == MOST_STEPS:
            raise TooMany(MOST_STEPS)
        ahead = led_on_by_step(program, inputs, state)
        state, done = _changed(program, ahead, changes, done)
        aheads.append(ahead)
        states.append(state)
    if done < len(changes):
        raise NoChanges(done)
    return aheads, states


class Run:
    """A run to its end; it never changes."""

    def __init__(self, program, inputs=(), changes=()):
        need_program(program)
        need_inputs(inputs)
        if not is_listed(changes, MOST_CHANGES):
            raise NoChanges(None)
        self._program = program
        self._inputs = tuple(inputs)
        self._changes = tuple(changes)
        wrong = first_wrong_change(self._changes)
        if wrong is not None:
            raise NoChanges(wrong)
        self._aheads, self._states = _states_of(program, self._inputs, self._changes)
        self._spots = [state[1][-1][1:3] for state in self._states[:-1]]

    def __eq__(self, other):
        return (isinstance(other, Run) and self._program == other._program and self._inputs == other._inputs
                and self._changes == other._changes)

    def __len__(self):
        return len(self._spots)

    def program(self):
        """The program that is run."""
        return self._program

    def inputs(self):
        """The inputs, as a tuple."""
        return self._inputs

    def changes(self):
        """The changes, as a tuple."""
        return self._changes

    def last(self):
        """The last moment, T."""
        return len(self._spots)

    def state(self, t):
        """The state at a moment, behind its changes."""
        if not is_within(t, 0, self.last()):
            raise NoMoment(t)
        return self._states[t]

    def ahead(self, t):
        """The state at a moment ahead of its changes."""
        if not is_within(t, 0, self.last()):
            raise NoMoment(t)
        return self._aheads[t]

    def spot_at(self, t):
        """The spot of step t."""
        if not is_within(t, 0, self.last() - 1):
            raise NoMoment(t)
        return self._spots[t]

    def outputs(self):
        """What was put out in all, as a tuple."""
        return self._states[-1][3]

    def result(self):
        """The value with which the run ended."""
        return self._states[-1][4]

    def cell_at(self, t, cell):
        """The value of a cell that stands at a moment."""
        state = self.state(t)
        at = frame_of(self._program, state, cell)
        if at is None:
            raise NoCell(cell)
        return value_of(state[1][at][3], cell[1])


def need_run(run):
    """Refuses any value that is no run."""
    if not isinstance(run, Run):
        raise NoRun(run)


def need_moment(run, t):
    """Refuses any value that is no moment of a run."""
    if not is_within(t, 0, run.last()):
        raise NoMoment(t)


def need_step(run, t):
    """Refuses any value that is no step of a run."""
    if not is_within(t, 0, run.last() - 1):
        raise NoMoment(t)


def need_cell(run, t, cell):
    """Refuses any value that is no run, then any that is no moment of it, then any that is no cell then."""
    need_run(run)
    run.cell_at(t, cell)


def need_run_of(program, run):
    """Refuses any value that is no run of a program."""
    if not isinstance(run, Run) or run.program() != program:
        raise NoRun(run)


def last_changed(run):
    """The moment of the last change of a run, 0 without changes."""
    changes = run.changes()
    return changes[-1][0] if len(changes) > 0 else 0
