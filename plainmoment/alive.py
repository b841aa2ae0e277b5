"""Which variables are live, which states are alike, and where runs meet, heal and wait for cells."""

from plainmoment.branches import main_of
from plainmoment.causes import read_by, written_by
from plainmoment.checks import is_name, is_tuple_of
from plainmoment.errors import NoSpot, NoVariable
from plainmoment.programs import need_program, need_spot
from plainmoment.rows import operands_of, set_by
from plainmoment.runs import last_changed, need_moment, need_run, need_run_of
from plainmoment.states import need_inputs, need_state, value_of


def _does_read(program, spot, variable):
    return variable in operands_of(program.row(spot))


def _live_by(program, spot, live):
    """The variables that are live at a spot, if those at its nexts are told rightly."""
    row = program.row(spot)
    found = [part for part in operands_of(row) if is_name(part)]
    for after in program.nexts(spot):
        found.extend([variable for variable in live[after] if variable != set_by(row)])
    return tuple(sorted(set(found)))


def _live_within(program, name):
    """The dict from the spots of a procedure to the variables that are live there."""
    spots = [(name, index) for index in range(len(program.procedure(name)[2]))]
    live = {spot: () for spot in spots}
    while True:
        led = {spot: _live_by(program, spot, live) for spot in spots}
        if led == live:
            return live
        live = led


def _beneath(program, live, spot):
    """The variables that are live beneath a call; none at another row."""
    row = program.row(spot)
    if row[0] != "call":
        return ()
    return tuple([variable for variable in live[(spot[0], spot[1] + 1)] if variable != row[1]])


def lives_of(program):
    """The dict from all spots to pairs: the variables that are live there, and those live beneath a call there."""
    lives = {}
    for name in program.names():
        live = _live_within(program, name)
        for spot in live:
            lives[spot] = (live[spot], _beneath(program, live, spot))
    return lives


def live_at(program, spot):
    """The tuple of the variables that are live at a spot, ascending."""
    need_spot(program, spot)
    return lives_of(program)[spot][0]


def live_beneath(program, spot):
    """The tuple of the variables that are live beneath a call, ascending."""
    need_spot(program, spot)
    if program.row(spot)[0] != "call":
        raise NoSpot(spot)
    return lives_of(program)[spot][1]


def _ways_on(program, spot, variable):
    """The dict from all spots that ways lead to, the nearest first, to the spot ahead on a way."""
    come = {spot: None}
    waiting = [spot]
    while len(waiting) > 0:
        here = waiting.pop(0)
        if set_by(program.row(here)) == variable:
            continue
        for after in program.nexts(here):
            if after not in come:
                come[after] = here
                waiting.append(after)
    return come


def _way_to(come, spot):
    way = []
    while spot is not None:
        way.append(spot)
        spot = come[spot]
    return tuple(reversed(way))


def _need_variable(program, spot, variable):
    need_spot(program, spot)
    if not is_name(variable) or variable not in program.variables_of(spot[0]):
        raise NoVariable(variable)


def live_paper(program, spot, variable):
    """A paper that a variable is live at a spot, or one that it is not."""
    _need_variable(program, spot, variable)
    come = _ways_on(program, spot, variable)
    for there in come:
        if _does_read(program, there, variable):
            return ("live", _way_to(come, there))
    return ("dead", tuple(sorted(come)))


def _is_way(program, variable, way):
    for here, after in zip(way, way[1:]):
        if set_by(program.row(here)) == variable or after not in program.nexts(here):
            return False
    return _does_read(program, way[-1], variable)


def _are_dead(program, variable, spots):
    for spot in spots:
        if _does_read(program, spot, variable):
            return False
        if set_by(program.row(spot)) == variable:
            continue
        if not all([after in spots for after in program.nexts(spot)]):
            return False
    return True


def _is_rising(spots, name):
    if not all([spot[0] == name for spot in spots]):
        return False
    return all([ahead < after for ahead, after in zip(spots, spots[1:])])


def _is_live_paper(program, spot, variable, paper):
    word, spots = paper
    if word == "live":
        return spots[0] == spot and _is_way(program, variable, spots)
    return word == "dead" and spot in spots and _is_rising(spots, spot[0]) and _are_dead(program, variable, spots)


def judge_live(program, spot, variable, paper):
    """The kind, "live" or "dead", of which any value is a right paper about a variable at a spot, otherwise None."""
    _need_variable(program, spot, variable)
    if not is_tuple_of(paper, 2) or not isinstance(paper[0], str) or not isinstance(paper[1], tuple):
        return None
    if len(paper[1]) == 0 or not all([program.has_spot(part) for part in paper[1]]):
        return None
    return paper[0] if _is_live_paper(program, spot, variable, paper) else None


def key_by(lives, inputs, state):
    """The key of a state by the live variables of its program; nothing is asked of what is handed in."""
    _, frames, asked, _, result = state
    shown = []
    for index, frame in enumerate(frames):
        live, beneath = lives[frame[1:3]]
        variables = live if index == len(frames) - 1 else beneath
        pairs = tuple([(variable, value_of(frame[3], variable)) for variable in variables])
        shown.append((frame[1], frame[2], pairs))
    return (tuple(shown), tuple(inputs[asked:]), result)


def alike_key(program, inputs, state):
    """The key of a state, with inputs: alike states have equal keys."""
    need_program(program)
    need_inputs(inputs)
    need_state(program, state)
    return key_by(lives_of(program), inputs, state)


def _are_alike(lives, one, t, other, u):
    return key_by(lives, one.inputs(), one.state(t)) == key_by(lives, other.inputs(), other.state(u))


def _need_two(one, other):
    need_run(one)
    need_run_of(one.program(), other)


def are_alike(one, t, other, u):
    """Whether the state of a run at t and that of another one of the same program at u are alike."""
    _need_two(one, other)
    need_moment(one, t)
    need_moment(other, u)
    return _are_alike(lives_of(one.program()), one, t, other, u)


def first_meeting(one, other):
    """The first pair of moments at which two runs of a program meet, or None."""
    _need_two(one, other)
    lives = lives_of(one.program())
    met = None
    t, u = one.last(), other.last()
    # Runs that meet end together, so all their meetings are as far from the one end as from the other.
    while t >= last_changed(one) and u >= last_changed(other) and _are_alike(lives, one, t, other, u):
        met = (t, u)
        t, u = t - 1, u - 1
    return met


def _seen(run, t):
    _, frames, _, outputs, result = run.state(t)
    return (frames[-1][1:3] if len(frames) > 0 else None, outputs, result)


def first_unlike(one, other):
    """The least moment at which two runs stand at unlike spots or differ in outputs or result, or None."""
    _need_two(one, other)
    for t in range(min(one.last(), other.last()) + 1):
        if _seen(one, t) != _seen(other, t):
            return t
    return None


def healed_at(run):
    """The moment at which a branch is healed, or None."""
    main = main_of(run)
    lives = lives_of(run.program())
    for t in range(last_changed(run), min(run.last(), main.last()) + 1):
        if _are_alike(lives, run, t, main, t):
            return t
    return None


def awaited_cells(run, t):
    """The list of the cells that stand at a moment and are awaited then, ascending."""
    need_run(run)
    need_moment(run, t)
    awaited = {}
    for step in range(run.last() - 1, t - 1, -1):
        for cell in written_by(run, step):
            awaited[cell] = False
        for cell in read_by(run, step):
            awaited[cell] = True
    borns = [frame[0] for frame in run.state(t)[1]]
    return sorted([cell for cell in awaited if awaited[cell] and cell[0] in borns])
