"""What steps read and write, which steps a value comes from, and what may be told of it."""

from plainmoment.checks import is_ascending, is_like, is_name, is_within
from plainmoment.errors import NoMoment
from plainmoment.rows import operands_of, reckoned
from plainmoment.runs import need_cell, need_run, need_step
from plainmoment.states import input_at


def _frame_of_step(run, step):
    return run.state(step)[1][-1]


def _row_of_step(run, step):
    return run.program().row(run.spot_at(step))


def read_by(run, step):
    """The ascending tuple of the cells that a step reads; nothing is asked of what is handed in."""
    born = _frame_of_step(run, step)[0]
    return tuple(sorted({(born, part) for part in operands_of(_row_of_step(run, step)) if is_name(part)}))


def _targets(run, step):
    """The cells that a step writes, in the order of the values that go into them."""
    row = _row_of_step(run, step)
    if row[0] in ("set", "copy", "get"):
        return [(_frame_of_step(run, step)[0], row[1])]
    if row[0] == "call":
        return [(step + 1, parameter) for parameter in run.program().procedure(row[2])[1]]
    frames = run.state(step)[1]
    if row[0] == "back" and len(frames) > 1:
        return [(frames[-2][0], run.program().row(frames[-2][1:3])[1])]
    return []


def written_by(run, step):
    """The ascending tuple of the cells that a step writes; nothing is asked of what is handed in."""
    return tuple(sorted(_targets(run, step)))


def reads_of(run, step):
    """The ascending tuple of the cells that a step reads."""
    need_run(run)
    need_step(run, step)
    return read_by(run, step)


def writes_of(run, step):
    """The ascending tuple of the cells that a step writes."""
    need_run(run)
    need_step(run, step)
    return written_by(run, step)


def _last_write(run, t, cell):
    for step in range(t - 1, -1, -1):
        if cell in _targets(run, step):
            return step
    return None


def last_write(run, t, cell):
    """The last step below a moment that writes a cell, None if there is none."""
    need_cell(run, t, cell)
    return _last_write(run, t, cell)


def links_by(run):
    """For each step the dict from the cells that it reads, ascending, to their last writes then."""
    written = {}
    links = []
    for step in range(run.last()):
        links.append({cell: written.get(cell) for cell in read_by(run, step)})
        for cell in _targets(run, step):
            written[cell] = step
    return links


def causes_from(links, writes):
    """The ascending list of the causes of cells with these last writes, perhaps None."""
    found = {}
    waiting = list(writes)
    while len(waiting) > 0:
        step = waiting.pop()
        if step is not None and step not in found:
            found[step] = True
            waiting.extend(list(links[step].values()))
    return sorted(found)


def causes_by(run, t, cell):
    """The ascending list of the causes of a cell at a moment; nothing is asked of what is handed in."""
    return causes_from(links_by(run), [_last_write(run, t, cell)])


def causes_of(run, t, cell):
    """The ascending tuple of the causes of a cell at a moment."""
    need_cell(run, t, cell)
    return tuple(causes_by(run, t, cell))


def asked_by(run, steps):
    """The tuple of the numbers of the gets among steps, in their order; nothing is asked of what is handed in."""
    return tuple([run.state(step)[2] for step in steps if _row_of_step(run, step)[0] == "get"])


def askings_of(run, t, cell):
    """The ascending tuple of the numbers of the gets among the causes of a cell at a moment."""
    need_cell(run, t, cell)
    return asked_by(run, causes_by(run, t, cell))


def effects_of(run, step):
    """The ascending tuple of the later steps that read a cell of which a step is a cause then."""
    need_run(run)
    need_step(run, step)
    links = links_by(run)
    reached = {step: True}
    for later in range(step + 1, run.last()):
        if any([write in reached for write in links[later].values()]):
            reached[later] = True
    return tuple([later for later in reached if later != step])


def _redo(run, step, held):
    """Does a step upon the cells of a dict alone."""
    born = _frame_of_step(run, step)[0]
    row = _row_of_step(run, step)
    made = [held.get((born, part), 0) if is_name(part) else part for part in operands_of(row)]
    if row[0] == "set":
        made = [reckoned(row[2], made[0], made[1])]
    if row[0] == "get":
        made = [input_at(run.inputs(), run.state(step)[2])]
    for cell, value in zip(_targets(run, step), made):
        held[cell] = value


def _redone(run, steps, cell):
    held = {}
    for step in steps:
        _redo(run, step, held)
    return held.get(cell, 0)


def _need_steps(run, steps):
    if not isinstance(steps, (list, tuple)):
        raise NoMoment(None)
    low = 0
    for step in steps:
        if not is_within(step, low, run.last() - 1):
            raise NoMoment(step)
        low = step + 1


def redone(run, steps, t, cell):
    """The value that redoing steps gives to a cell that stands at a moment."""
    need_run(run)
    _need_steps(run, steps)
    need_cell(run, t, cell)
    return _redone(run, steps, cell)


def is_enough(run, t, cell, value):
    """Whether any value is an ascending tuple of steps below a moment by which a cell is redone rightly."""
    need_cell(run, t, cell)
    return is_ascending(value, 0, t - 1) and _redone(run, value, cell) == run.cell_at(t, cell)


def is_closed_lot(run, t, cell, value):
    """Whether any value is an ascending tuple of steps below a moment that is closed for a cell."""
    need_cell(run, t, cell)
    if not is_ascending(value, 0, t - 1):
        return False
    links = links_by(run)
    asked = [_last_write(run, t, cell)]
    for step in value:
        asked.extend(list(links[step].values()))
    return all([write is None or write in value for write in asked])


def _is_changed(run, cell, write, t):
    """Whether a run has a change of a cell above its last write, perhaps None, up to a moment."""
    above = -1 if write is None else write
    return any([change[1:3] == cell and above < change[0] <= t for change in run.changes()])


def _do_like_rows(run, other, t):
    if run.program() != other.program() or t > other.last():
        return False
    return all([run.spot_at(step) == other.spot_at(step) for step in range(t)])


def _are_asked_alike(run, other, steps):
    numbers = asked_by(run, steps)
    return all([input_at(run.inputs(), number) == input_at(other.inputs(), number) for number in numbers])


def agree_about(run, other, t, cell):
    """Whether two runs agree about a cell that stands at a moment in the first one."""
    need_run(run)
    need_run(other)
    need_cell(run, t, cell)
    if not _do_like_rows(run, other, t):
        return False
    links = links_by(run)
    write = _last_write(run, t, cell)
    steps = causes_from(links, [write])
    asked = [(cell, write, t)]
    for step in steps:
        asked.extend([(read, link, step) for read, link in links[step].items()])
    for read, link, moment in asked:
        if _is_changed(run, read, link, moment) or _is_changed(other, read, link, moment):
            return False
    return _are_asked_alike(run, other, steps)


def causes_paper(run, t, cell):
    """The pair of the last write of a cell and of rows, one for each cause, of what it reads and from where."""
    need_cell(run, t, cell)
    links = links_by(run)
    write = _last_write(run, t, cell)
    return (write, tuple([(step, tuple(links[step].items())) for step in causes_from(links, [write])]))


def shows_causes(run, t, cell, value):
    """Whether any value is just the causes paper of a cell at a moment."""
    return is_like(value, causes_paper(run, t, cell))
