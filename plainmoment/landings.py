"""Landings: which moments of a run are, by an edit, moments of the other program's own run."""

from plainmoment.alive import key_by, lives_of
from plainmoment.checks import is_like, is_tuple_of, is_within
from plainmoment.edits import Edit, leads, need_like_names
from plainmoment.errors import NoCell, NoEdit, NoLanding, TooMany
from plainmoment.programs import need_program
from plainmoment.runs import Run, need_moment, need_run
from plainmoment.states import MOST_STEPS, frame_of, led_on_by_step, value_of


def _need_edit(run, edit):
    need_run(run)
    if not isinstance(edit, Edit) or edit.old() != run.program():
        raise NoEdit(edit)


def _need_edit_at(run, edit, t):
    _need_edit(run, edit)
    need_moment(run, t)


def _are_cells(run, t, value):
    """Whether any value is unlike cells of frames that stand at a moment."""
    if not isinstance(value, (list, tuple)):
        return False
    if not all([frame_of(run.program(), run.state(t), cell) is not None for cell in value]):
        return False
    return len(set(value)) == len(value)


def _need_all(run, edit, t, gone):
    _need_edit_at(run, edit, t)
    if not _are_cells(run, t, gone):
        raise NoCell(gone)


def own_run(run, edit):
    """The other program's own run; nothing is asked of what is handed in."""
    return Run(edit.new(), run.inputs())


def landed_in(run, edit, t):
    """The landed state, None if it is not there; nothing is asked of what is handed in."""
    moment, frames, asked, outputs, result = run.state(t)
    led = []
    for born, name, index, values in frames:
        spot = edit.to((name, index))
        if spot is None:
            return None
        variables = edit.new().variables_of(name)
        led.append((born, name, spot[1], tuple([pair for pair in values if pair[0] in variables])))
    return (moment, tuple(led), asked, outputs, result)


def landed(run, edit, t):
    """The landed state at a moment, None if it is not there."""
    _need_edit_at(run, edit, t)
    return landed_in(run, edit, t)


def _mark(lives, inputs, state):
    """What a landed state and one of the own run have in common if the landing is right."""
    return (state[3], key_by(lives, inputs, state))


def _marks(lives, own):
    """The dict from the marks of the states of an own run to their moments."""
    return {_mark(lives, own.inputs(), own.state(t)): t for t in range(own.last() + 1)}


def _live_cells(lives, state):
    """The cells of a state that are live there."""
    _, frames, _, _, _ = state
    found = []
    for index, frame in enumerate(frames):
        live, beneath = lives[frame[1:3]]
        found.extend([(frame[0], name) for name in (live if index == len(frames) - 1 else beneath)])
    return found


def goal_in(run, edit, own, t, gone):
    """The goal of a landing in the own run, None if it is not right; nothing is asked of what is handed in."""
    state = landed_in(run, edit, t)
    if state is None:
        return None
    lives = lives_of(edit.new())
    if any([cell in gone for cell in _live_cells(lives, state)]):
        return None
    return _marks(lives, own).get(_mark(lives, run.inputs(), state))


def goal(run, edit, t, gone=()):
    """The goal of the landing at a moment, None if it is not right."""
    _need_all(run, edit, t, gone)
    return goal_in(run, edit, own_run(run, edit), t, gone)


def _landings(run, edit, moments):
    """The pairs of those of some moments at which the landing is right, and their goals."""
    lives = lives_of(edit.new())
    marks = _marks(lives, own_run(run, edit))
    found = []
    for t in moments:
        state = landed_in(run, edit, t)
        if state is not None:
            found.append((t, marks.get(_mark(lives, run.inputs(), state))))
    return [pair for pair in found if pair[1] is not None]


def landings(run, edit):
    """The list of the pairs of all moments at which the landing is right, and their goals."""
    _need_edit(run, edit)
    return _landings(run, edit, list(range(run.last() + 1)))


def next_landing(run, edit, t):
    """The first right landing from a moment on, with its goal, or None."""
    _need_edit_at(run, edit, t)
    found = _landings(run, edit, list(range(t, run.last() + 1)))
    return found[0] if len(found) > 0 else None


def gone_in(run, edit, own, to, gone):
    """The cells gone behind a right landing with this goal; nothing is asked of what is handed in."""
    if edit.is_same() and len(run.changes()) == 0 and len(gone) == 0:
        return []
    state = own.state(to)
    live = _live_cells(lives_of(edit.new()), state)
    cells = [(frame[0], name) for frame in state[1] for name in edit.new().variables_of(frame[1])]
    return [cell for cell in cells if cell not in live]


def gone_behind(run, edit, t, gone=()):
    """The list of the cells gone behind the right landing at a moment."""
    _need_all(run, edit, t, gone)
    own = own_run(run, edit)
    to = goal_in(run, edit, own, t, gone)
    if to is None:
        raise NoLanding(t)
    return gone_in(run, edit, own, to, gone)


def _led_to_end(program, inputs, state):
    steps = 0
    while len(state[1]) > 0:
        if steps == MOST_STEPS:
            raise TooMany(MOST_STEPS)
        state = led_on_by_step(program, inputs, state)
        steps = steps + 1
    return state


def _led_on(run, edit, t):
    state = landed_in(run, edit, t)
    if state is None:
        raise NoLanding(t)
    end = _led_to_end(edit.new(), run.inputs(), state)
    return (end[3], end[4])


def led_on(run, edit, t):
    """The pair of all outputs and the result of the landed state, led on by the steps of the other program."""
    _need_edit_at(run, edit, t)
    return _led_on(run, edit, t)


def _first_unlike(outputs, others):
    for index, pair in enumerate(zip(outputs, others)):
        if pair[0] != pair[1]:
            return index
    return min(len(outputs), len(others)) if len(outputs) != len(others) else None


def spoilt(run, edit, t):
    """The index of the output that is spoilt, or their number if the result is; None if nothing is."""
    _need_edit_at(run, edit, t)
    own = own_run(run, edit)
    outputs, result = _led_on(run, edit, t)
    index = _first_unlike(outputs, own.outputs())
    if index is None and result != own.result():
        return len(outputs)
    return index


def _frame_reasons(lives, n, frames, others):
    """The reasons by the frame n, which both have."""
    frame, other = frames[n], others[n]
    if frame[1] != other[1]:
        return [("procedure", n)]
    if frame[2] != other[2]:
        return [("row", n)]
    on_top = n == len(frames) - 1
    if on_top != (n == len(others) - 1):
        return []
    live, beneath = lives[frame[1:3]]
    names = live if on_top else beneath
    return [("value", n, name) for name in names if value_of(frame[3], name) != value_of(other[3], name)]


def _reasons(lives, inputs, state, other):
    """All reasons that a landed state is not that of the own run at a moment, in order."""
    frames, others = state[1], other[1]
    found = []
    if state[3] != other[3]:
        found.append(("outputs",))
    if state[4] != other[4]:
        found.append(("result",))
    if inputs[state[2]:] != inputs[other[2]:]:
        found.append(("inputs",))
    if len(frames) != len(others):
        found.append(("frames",))
    for n in range(min(len(frames), len(others))):
        found.extend(_frame_reasons(lives, n, frames, others))
    return found


def _first_untold(run, edit, t):
    """The least number of a frame, from the bottom, whose row is not told, None if all are."""
    for n, frame in enumerate(run.state(t)[1]):
        if edit.to(frame[1:3]) is None:
            return n
    return None


def _all_reasons(run, edit, own, t):
    """For each moment of the own run all reasons why the landed state is not there."""
    lives = lives_of(edit.new())
    state = landed_in(run, edit, t)
    return [_reasons(lives, run.inputs(), state, own.state(u)) for u in range(own.last() + 1)]


def landing_paper(run, edit, t):
    """The paper that the landing at a moment is right, or why it is not."""
    _need_edit_at(run, edit, t)
    own = own_run(run, edit)
    untold = _first_untold(run, edit, t)
    if untold is not None:
        return ("map", t, untold)
    to = goal_in(run, edit, own, t, ())
    if to is not None:
        return ("landed", t, to)
    return ("none", t, [reasons[0] for reasons in _all_reasons(run, edit, own, t)])


def _shows_none(run, edit, own, t, told):
    if _first_untold(run, edit, t) is not None:
        return False
    if not isinstance(told, (list, tuple)) or len(told) != own.last() + 1:
        return False
    for value, reasons in zip(told, _all_reasons(run, edit, own, t)):
        if not any([is_like(value, reason) for reason in reasons]):
            return False
    return True


def accepts_landing(run, edit, paper):
    """Whether any value is a right paper of a landing at some moment of a run."""
    _need_edit(run, edit)
    own = own_run(run, edit)
    if not is_tuple_of(paper, 3) or not isinstance(paper[0], str) or not is_within(paper[1], 0, run.last()):
        return False
    word, t, told = paper
    if word == "landed":
        return is_within(told, 0, own.last()) and goal_in(run, edit, own, t, ()) == told
    if word == "map":
        frames = run.state(t)[1]
        return is_within(told, 0, len(frames) - 1) and edit.to(frames[told][1:3]) is None
    return word == "none" and _shows_none(run, edit, own, t, told)


def _map_between(run, program, state, other):
    """The edit that takes the row of each frame of a state to that of the frame as high in another one, or None."""
    if len(state[1]) != len(other[1]):
        return None
    led = {}
    for frame, there in zip(state[1], other[1]):
        spot, to = frame[1:3], there[1:3]
        if not leads(run.program(), program, spot, to) or led.get(spot, to) != to:
            return None
        led[spot] = to
    return Edit(run.program(), program, list(led.items()))


def maps_for(run, program, t):
    """The list of the pairs of goals and pairs: the maps by which the landing at a moment is right."""
    need_run(run)
    need_program(program)
    need_like_names(run.program(), program)
    need_moment(run, t)
    own = Run(program, run.inputs())
    lives = lives_of(program)
    found = []
    for to in range(own.last() + 1):
        edit = _map_between(run, program, run.state(t), own.state(to))
        if edit is None:
            continue
        state = landed_in(run, edit, t)
        if _mark(lives, run.inputs(), state) == _mark(lives, run.inputs(), own.state(to)):
            found.append((to, edit.pairs()))
    return found
