"""Settings, and roads: runs that changes and landings lead to, and what may be shown of them."""

from plainmoment.branches import branch_of
from plainmoment.causes import written_by
from plainmoment.checks import is_listed, is_tuple_of, is_within
from plainmoment.edits import Edit
from plainmoment.errors import NoChanges, NoEdit, NoMoment, NoRoad, NoSetting
from plainmoment.landings import goal_in, gone_in, own_run
from plainmoment.maderuns import Made
from plainmoment.programs import need_program
from plainmoment.runs import Run, is_change, last_changed
from plainmoment.states import need_inputs, value_of

MOST_EDITS = 4
MOST_LEGS = 8


class Setting:
    """A program with inputs, made code and edits; it never changes."""

    def __init__(self, program, inputs=(), *, stretches=(), edits=()):
        need_program(program)
        need_inputs(inputs)
        self._code = Made(program, stretches)
        if not is_listed(edits, MOST_EDITS):
            raise NoEdit(None)
        for index, edit in enumerate(edits):
            if not isinstance(edit, Edit):
                raise NoEdit(index)
        self._main = Run(program, inputs)
        self._edits = tuple(edits)

    def __eq__(self, other):
        return (isinstance(other, Setting) and self._main == other._main and self._code == other._code
                and self._edits == other._edits)

    def program(self):
        """The program of the main run."""
        return self._main.program()

    def inputs(self):
        """The inputs, as a tuple."""
        return self._main.inputs()

    def edits(self):
        """The edits, as a tuple; their places are their numbers."""
        return self._edits

    def code(self):
        """The made code."""
        return self._code

    def main_run(self):
        """The run without changes."""
        return self._main


def need_setting(setting):
    """Refuses any value that is no setting."""
    if not isinstance(setting, Setting):
        raise NoSetting(setting)


def _written_from(run, floor, gone):
    """The dict from gone cells to the first moments at which they are written again, from the floor on."""
    behind = run.last() + 1
    written = {cell: behind for cell in gone}
    if len(gone) == 0:
        return written
    found = [(t, (born, variable)) for t, born, variable, _ in run.changes()]
    for step in range(floor, run.last()):
        found.extend([(step + 1, cell) for cell in written_by(run, step)])
    for t, cell in found:
        if t < written.get(cell, 0):
            written[cell] = t
    return written


class Stage:
    """What a road has behind one of its legs, or ahead of all; it never changes."""

    def __init__(self, run, floor, gone):
        self.done = run
        self.low = floor
        self.lost = gone
        self.written = _written_from(run, floor, gone)

    def shows(self, t):
        """Whether any value is a moment that is shown."""
        return is_within(t, self.low, self.done.last())

    def is_gone(self, t, cell):
        """Whether a cell is gone at a moment; its frame stands then."""
        return t < self.written.get(cell, 0)

    def cells_at(self, t):
        """The list of the cells of the frames that stand at a moment, ascending."""
        program = self.done.program()
        return [(frame[0], name) for frame in self.done.state(t)[1] for name in program.variables_of(frame[1])]

    def gone_at(self, t):
        """The list of the cells that are gone at a moment, ascending."""
        return [cell for cell in self.cells_at(t) if self.is_gone(t, cell)] if len(self.lost) > 0 else []

    def seen_in(self, t, frame):
        """The tuple of the pairs of the variables of a frame and what is shown of them."""
        born, name, _, values = frame
        shown = []
        for variable in self.done.program().variables_of(name):
            gone = self.is_gone(t, (born, variable))
            shown.append((variable, None if gone else value_of(values, variable)))
        return tuple(shown)

    def view(self, t):
        """What is shown at a moment."""
        moment, frames, asked, outputs, result = self.done.state(t)
        seen = tuple([frame[:3] + (self.seen_in(t, frame),) for frame in frames])
        return (moment, seen, asked, outputs, result)


def _behind_change(stage, leg):
    """The stage behind a change leg, None if it may not stand there."""
    if not is_tuple_of(leg, 5) or not is_change(leg[1:]) or leg[1] < stage.low:
        return None
    try:
        run = branch_of(stage.done, [leg[1:]])
    except NoChanges:
        return None
    return Stage(run, stage.low, stage.lost)


def _behind_land(edits, stage, leg):
    """The stage behind a land leg, None if it may not stand there."""
    if not is_tuple_of(leg, 3) or not is_within(leg[2], 0, len(edits) - 1):
        return None
    run, t, edit = stage.done, leg[1], edits[leg[2]]
    if edit.old() != run.program() or not stage.shows(t) or t < last_changed(run):
        return None
    own = own_run(run, edit)
    gone = stage.gone_at(t)
    to = goal_in(run, edit, own, t, gone)
    return None if to is None else Stage(own, to, gone_in(run, edit, own, to, gone))


def _stage_behind(setting, stage, leg):
    """The stage behind any value, None if it is no leg, or may not stand there."""
    if not isinstance(leg, tuple) or len(leg) == 0 or not isinstance(leg[0], str):
        return None
    if leg[0] == "change":
        return _behind_change(stage, leg)
    return _behind_land(setting.edits(), stage, leg) if leg[0] == "land" else None


class Road:
    """A road of a setting; it never changes."""

    def __init__(self, setting, legs=()):
        need_setting(setting)
        if not is_listed(legs, MOST_LEGS):
            raise NoRoad(None)
        stages = [Stage(setting.main_run(), 0, [])]
        for index, leg in enumerate(legs):
            stage = _stage_behind(setting, stages[-1], leg)
            if stage is None:
                raise NoRoad(index)
            stages.append(stage)
        self._setting = setting
        self._legs = tuple(legs)
        self._stages = stages

    def __eq__(self, other):
        return isinstance(other, Road) and self._setting == other._setting and self._legs == other._legs

    def setting(self):
        """The setting of which it is a road."""
        return self._setting

    def legs(self):
        """The legs, as a tuple."""
        return self._legs

    def stage_behind(self, many):
        """The stage behind the first so many legs."""
        return self._stages[many]

    def run(self):
        """The run to which the legs lead."""
        return self._stages[-1].done

    def floor(self):
        """The least moment that is shown."""
        return self._stages[-1].low

    def shows(self, t):
        """Whether any value is a moment that is shown."""
        return self._stages[-1].shows(t)

    def gone_at(self, t):
        """The list of the cells that are gone at a moment, ascending."""
        if not self.shows(t):
            raise NoMoment(t)
        return self._stages[-1].gone_at(t)

    def view(self, t):
        """What is shown at a moment: the state, with all variables, and None for what is gone."""
        if not self.shows(t):
            raise NoMoment(t)
        return self._stages[-1].view(t)

    def many_ahead(self):
        """How many legs stand ahead of the last land leg, None without one."""
        for index in range(len(self._legs) - 1, -1, -1):
            if self._legs[index][0] == "land":
                return index
        return None

    def ahead(self):
        """The pair of the legs and the moment from which the last land leg landed, None without one."""
        many = self.many_ahead()
        return None if many is None else (self._legs[:many], self._legs[many][1])

    def begun(self, many):
        """The road of the first so many legs."""
        road = Road(self._setting)
        road._legs = self._legs[:many]
        road._stages = self._stages[:many + 1]
        return road

    def led_by(self, leg):
        """The road with one more leg, fewer than eight being there."""
        stage = _stage_behind(self._setting, self._stages[-1], leg)
        if stage is None:
            raise NoRoad(len(self._legs))
        road = Road(self._setting)
        road._legs = self._legs + (leg,)
        road._stages = self._stages + [stage]
        return road


def idle_legs(road):
    """The list of the indexes of the idle legs, ascending."""
    if not isinstance(road, Road):
        raise NoRoad(road)
    many = road.many_ahead()
    idle = []
    for index in range(0 if many is None else many + 1, len(road.legs())):
        _, t, born, variable, value = road.legs()[index]
        stage = road.stage_behind(index)
        if not stage.is_gone(t, (born, variable)) and stage.done.cell_at(t, (born, variable)) == value:
            idle.append(index)
    return idle


def _need_two(one, other):
    if not isinstance(one, Road):
        raise NoRoad(one)
    if not isinstance(other, Road) or other.setting() != one.setting():
        raise NoRoad(other)


def _do_part(one, other, t):
    if not one.shows(t) or not other.shows(t):
        return one.shows(t) or other.shows(t)
    return one.view(t) != other.view(t)


def _first_parting(one, other, moments):
    for t in moments:
        if _do_part(one, other, t):
            return t
    return None


def _moments_of(one, other):
    return list(range(min(one.floor(), other.floor()), max(one.run().last(), other.run().last()) + 1))


def first_parting(one, other):
    """The least moment at which two roads of one setting part, None if they never do."""
    _need_two(one, other)
    return _first_parting(one, other, _moments_of(one, other))


def last_parting(one, other):
    """The greatest moment at which two roads of one setting part, None if they never do."""
    _need_two(one, other)
    return _first_parting(one, other, list(reversed(_moments_of(one, other))))
