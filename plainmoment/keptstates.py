"""Kept states: how far moments are from them, and the road from the nearest one to a moment."""

from plainmoment.checks import is_number, is_within
from plainmoment.errors import NoCount, NoMoment
from plainmoment.runs import need_moment, need_run
from plainmoment.states import MOST_STEPS, led_on_by_step, with_cell
from plainmoment.tapes import state_back, tape_of


def _need_last(last):
    if not is_within(last, 0, MOST_STEPS):
        raise NoCount(last)


def _need_moments(last, moments, most_first):
    """Refuses any value that is no kept moments from 0 to last, the first one at most so much."""
    if not isinstance(moments, (list, tuple)) or len(moments) == 0:
        raise NoMoment(None)
    low, high = 0, most_first
    for moment in moments:
        if not is_within(moment, low, high):
            raise NoMoment(moment)
        low, high = moment + 1, last


def _gaps(moments):
    return [after - ahead for ahead, after in zip(moments, moments[1:])]


def reach_on(last, moments):
    """The greatest number of steps on from kept moments, 0 among them, to any moment up to the last one."""
    _need_last(last)
    _need_moments(last, moments, 0)
    return max([last - moments[-1]] + [gap - 1 for gap in _gaps(moments)])


def reach_both(last, moments):
    """The greatest number of steps, on or back, from the nearest kept moment to any moment up to the last one."""
    _need_last(last)
    _need_moments(last, moments, last)
    return max([moments[0], last - moments[-1]] + [gap // 2 for gap in _gaps(moments)])


def least_on(last, many):
    """The least reach on with at most so many kept moments."""
    _need_last(last)
    if not is_number(many) or many < 1:
        raise NoCount(many)
    return (last + many) // many - 1


def least_both(last, many):
    """The least reach both ways with at most so many kept moments."""
    return (least_on(last, many) + 1) // 2


def even_on(last, many):
    """The even moments on, a tuple."""
    reach = least_on(last, many)
    return tuple(range(0, last + 1, reach + 1))


def even_both(last, many):
    """The even moments both ways, a tuple."""
    reach = least_both(last, many)
    return tuple([min(moment, last) for moment in range(reach, last + reach + 1, 2 * reach + 1)])


def _state_on(run, state):
    """The state at the moment behind that of a state, behind the changes of that moment."""
    behind = led_on_by_step(run.program(), run.inputs(), state)
    for t, born, variable, value in run.changes():
        if t == behind[0]:
            behind = with_cell(run.program(), behind, (born, variable), value)
    return behind


class Kept:
    """The kept states of a run, and its tape; it never changes."""

    def __init__(self, run, moments):
        need_run(run)
        _need_moments(run.last(), moments, 0)
        self._run = run
        self._moments = tuple(moments)
        self._states = {moment: run.state(moment) for moment in moments}
        self._tape = tape_of(run)

    def __eq__(self, other):
        return isinstance(other, Kept) and self._run == other._run and self._moments == other._moments

    def moments(self):
        """The kept moments, a tuple."""
        return self._moments

    def road_to(self, t):
        """The pair of the nearest kept moment, of two the lesser one, and the way from there: "on" or "back"."""
        need_moment(self._run, t)
        nearest = min([(abs(t - moment), moment) for moment in self._moments])[1]
        return (nearest, "back" if nearest > t else "on")

    def come_to(self, t):
        """The state at a moment, come to on the road from the nearest kept one."""
        state = self._states[self.road_to(t)[0]]
        while state[0] < t:
            state = _state_on(self._run, state)
        while state[0] > t:
            run = self._run
            state = state_back(run.program(), run.inputs(), run.changes(), state, self._tape)
        return state
