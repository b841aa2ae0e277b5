"""The least changes of a menu that fulfil a wish, those that do not meddle, and the inputs that are to blame."""

from itertools import combinations

from plainmoment.apart import conflicts_between, lot_of
from plainmoment.causes import asked_by, causes_from, links_by
from plainmoment.checks import is_ascending, is_listed, is_tuple_of, is_value, is_within
from plainmoment.errors import NoChanges, NoCount, NoMenu, NoWish, TooMany
from plainmoment.parts import least_parts
from plainmoment.programs import need_program
from plainmoment.runs import Run, by_moments, is_change, need_run
from plainmoment.states import MOST_STEPS, need_inputs

MOST_MENU = 8


def _need_menu(program, inputs, menu):
    need_program(program)
    need_inputs(inputs)
    if not is_listed(menu, MOST_MENU):
        raise NoMenu(None)
    for index, change in enumerate(menu):
        if not is_change(change):
            raise NoMenu(index)


def _is_set(menu, value):
    return is_ascending(value, 0, len(menu) - 1)


def _run_of(program, inputs, menu, lot):
    """The run of a set, None if it has none; nothing is asked of what is handed in."""
    try:
        return Run(program, inputs, by_moments([menu[index] for index in lot]))
    except (NoChanges, TooMany):
        return None


def run_of(program, inputs, menu, lot):
    """The run of a set of a menu of changes, None if it has none."""
    _need_menu(program, inputs, menu)
    if not _is_set(menu, lot):
        raise NoMenu(lot)
    return _run_of(program, inputs, menu, lot)


def _is_wish(program, value):
    if not isinstance(value, tuple) or len(value) not in (2, 3) or not isinstance(value[0], str):
        return False
    if value[0] == "output":
        return len(value) == 3 and is_within(value[1], 0, MOST_STEPS - 1) and is_value(value[2])
    if len(value) != 2:
        return False
    if value[0] == "result":
        return is_value(value[1])
    return value[0] in ("done", "never") and program.has_spot(value[1])


def is_wish(program, value):
    """Whether any value is a wish about runs of a program."""
    need_program(program)
    return _is_wish(program, value)


def _holds(run, wish):
    if wish[0] == "output":
        return wish[1] < len(run.outputs()) and run.outputs()[wish[1]] == wish[2]
    if wish[0] == "result":
        return run.result() == wish[1]
    done = any([run.spot_at(t) == wish[1] for t in range(run.last())])
    return done == (wish[0] == "done")


def does_hold(run, wish):
    """Whether a wish holds in a run."""
    need_run(run)
    if not _is_wish(run.program(), wish):
        raise NoWish(wish)
    return _holds(run, wish)


def _need_wish(program, inputs, menu, wish):
    _need_menu(program, inputs, menu)
    if not _is_wish(program, wish):
        raise NoWish(wish)


def _fulfils(program, inputs, menu, wish, lot):
    run = _run_of(program, inputs, menu, lot)
    return run is not None and _holds(run, wish)


def _least_within(program, inputs, menu, wish, among):
    """The least sets of some indexes of a menu, by size, then ascending."""
    return least_parts(among, lambda lot: _fulfils(program, inputs, menu, wish, lot))


def least_sets(program, inputs, menu, wish):
    """The list of the sets of a menu that fulfil a wish and of which no proper part does."""
    _need_wish(program, inputs, menu, wish)
    return _least_within(program, inputs, menu, wish, list(range(len(menu))))


def is_least(program, inputs, menu, wish, value):
    """Whether any value is a least set of a menu for a wish."""
    _need_wish(program, inputs, menu, wish)
    return _is_set(menu, value) and _least_within(program, inputs, menu, wish, value) == [value]


def _are_apart(plain, lots, one, other):
    """Whether two groups are apart, by the dict from groups to their lots, None of one without a run."""
    if plain is None or lots[one] is None or lots[other] is None:
        return False
    return len(conflicts_between(plain, lots[one], lots[other])) == 0


def _first_meddling(plain, lots, groups, apart):
    """The first pair of groups that are not apart, or None; apart is the dict of those known to be so."""
    for pair in combinations(groups, 2):
        if pair not in apart:
            if not _are_apart(plain, lots, pair[0], pair[1]):
                return pair
            apart[pair] = True
    return None


def apart_groups(program, inputs, menu):
    """The list of the groups of a menu: what meddles with something of a group is in it, too."""
    _need_menu(program, inputs, menu)
    plain = _run_of(program, inputs, menu, ())
    groups = [(index,) for index in range(len(menu))]
    lots = {}
    apart = {}
    while True:
        for group in groups:
            if group not in lots:
                run = _run_of(program, inputs, menu, group)
                lots[group] = None if run is None or plain is None else lot_of(plain, run)
        pair = _first_meddling(plain, lots, groups, apart)
        if pair is None:
            return groups
        joined = tuple(sorted(pair[0] + pair[1]))
        groups = sorted([group for group in groups if group not in pair] + [joined])


def _step_of(run, index):
    """The step that put out the output of an index, or that ended the run."""
    if index is None:
        return run.last() - 1
    if not is_within(index, 0, len(run.outputs()) - 1):
        raise NoCount(index)
    return len([t for t in range(run.last()) if len(run.state(t)[3]) <= index]) - 1


def _blame(run, steps):
    """The numbers of the gets among the causes of all cells that steps read, ascending."""
    links = links_by(run)
    writes = [write for step in steps for write in links[step].values()]
    return list(asked_by(run, causes_from(links, writes)))


def blame_of(run, index):
    """The list of the numbers of the inputs that an output, or the result, comes from, ascending."""
    need_run(run)
    return _blame(run, [_step_of(run, index)])


def whole_blame(run, index):
    """The list of the numbers of the inputs that an output, or the result, and the way to it come from, ascending."""
    need_run(run)
    step = _step_of(run, index)
    ifs = [t for t in range(step) if run.program().row(run.spot_at(t))[0] == "if"]
    return _blame(run, ifs + [step])
