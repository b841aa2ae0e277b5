"""Pauses: how many steps may be done without coming to a look, and which looks are enough."""

from plainmoment.checks import is_number
from plainmoment.errors import NoCount, NoLooks, NoMenu
from plainmoment.parts import least_parts
from plainmoment.programs import need_program
from plainmoment.runs import need_moment, need_run

MOST_MENU = 8

# Of a spot there are three kinds of ways: "up" are all ways that begin there; "down" those of them that do not leave
# its frame; "through" those of these that end with the back of its frame.
UP = "up"
DOWN = "down"
THROUGH = "through"


def _behind(spot):
    return (spot[0], spot[1] + 1)


def _entered(program, spot):
    """Row 0 of the callee of a call, None of another row."""
    row = program.row(spot)
    return (row[2], 0) if row[0] == "call" else None


def _led_to(program, spot):
    entered = _entered(program, spot)
    return program.nexts(spot) if entered is None else [entered]


def _come_back(program, come):
    """The spots behind those calls of a lot whose callees have a back in it."""
    backs = [spot[0] for spot in come if program.row(spot)[0] == "back"]
    calls = [spot for spot in come if program.row(spot)[0] == "call"]
    return [_behind(spot) for spot in calls if program.row(spot)[2] in backs]


def _come_within(program):
    """The list of the come spots; nothing is asked of what is handed in."""
    come = {}
    waiting = [(program.names()[0], 0)]
    while len(waiting) > 0:
        spot = waiting.pop()
        if spot not in come:
            come[spot] = True
            waiting.extend(_led_to(program, spot))
        if len(waiting) == 0:
            waiting = [after for after in _come_back(program, list(come)) if after not in come]
    return [spot for spot in program.spots() if spot in come]


def come_spots(program):
    """The list of the come spots, procedure by procedure."""
    need_program(program)
    return _come_within(program)


def _steps_within(program):
    """The dict from the come spots to triples: row 0 of the callee of a call, or None; the spots of the same procedure
    to which a step leads, perhaps by that callee; those to which a back leads out of its frame, or None."""
    come = _come_within(program)
    calls = [spot for spot in come if program.row(spot)[0] == "call"]
    steps = {}
    for spot in come:
        outs = None
        if program.row(spot)[0] == "back":
            outs = [_behind(call) for call in calls if program.row(call)[2] == spot[0]]
        steps[spot] = (_entered(program, spot), program.nexts(spot), outs)
    return steps


def _choices(steps, node):
    """How the ways of a kind go on from their first spot: each choice a list of what stands one behind the other."""
    kind, spot = node
    entered, nexts, outs = steps[spot]
    choices = [] if kind == THROUGH and outs is None else [[]]
    if outs is not None:
        return choices + [[(UP, out)] for out in outs if kind == UP]
    if entered is None:
        return choices + [[(kind, after)] for after in nexts]
    if kind != THROUGH:
        choices.append([(DOWN, entered)])
    return choices + [[(THROUGH, entered), (kind, after)] for after in nexts]


def _length_of(steps, looks, node, lengths):
    """How many spots a longest way of a kind has, 0 if there is none; None if there are ways of any length."""
    if node in lengths:
        return lengths[node]
    if node[1] in looks:
        return 0
    # Whoever comes to what is still asked has come round, and may do so again and again.
    lengths[node] = None
    longest = 0
    for choice in _choices(steps, node):
        many = 1
        for part in choice:
            more = _length_of(steps, looks, part, lengths)
            if more is None:
                return None
            many = many + more if more > 0 else 0
            if many == 0:
                break
        longest = max(longest, many)
    lengths[node] = longest
    return longest


def _lengths_within(steps, looks):
    """The dict from kinds and spots to the lengths of longest ways, where they are asked; None for ways of any."""
    barred = {look: True for look in looks}
    lengths = {}
    for spot in steps:
        if _length_of(steps, barred, (UP, spot), lengths) is None:
            return None
    return lengths


def _bound_within(steps, looks):
    lengths = _lengths_within(steps, looks)
    return None if lengths is None else max(list(lengths.values()), default=0)


def _need_looks(program, looks):
    if not isinstance(looks, (list, tuple)):
        raise NoLooks(None)
    ahead = []
    for index, look in enumerate(looks):
        if not program.has_spot(look) or look in ahead:
            raise NoLooks(index)
        ahead.append(look)


def _need_both(program, looks):
    need_program(program)
    _need_looks(program, looks)


def bound_of(program, looks):
    """The number of spots of a longest way without looks, None if there are ways of any length."""
    _need_both(program, looks)
    return _bound_within(_steps_within(program), looks)


def _many_of(choice, lengths):
    """How many spots the longest way of a choice has, 0 if it has none."""
    parts = [lengths.get(part, 0) for part in choice]
    return 0 if 0 in parts else 1 + sum(parts)


def _way_of(steps, node, lengths):
    way = []
    waiting = [node]
    while len(waiting) > 0:
        here = waiting.pop()
        way.append(here[1])
        chosen = [choice for choice in _choices(steps, here) if _many_of(choice, lengths) == lengths[here]]
        waiting.extend(list(reversed(chosen[0])))
    return tuple(way)


def longest_way(program, looks):
    """A longest way without looks, () without any, None if there are ways of any length."""
    _need_both(program, looks)
    steps = _steps_within(program)
    lengths = _lengths_within(steps, looks)
    if lengths is None:
        return None
    longest = max([0] + [lengths.get((UP, spot), 0) for spot in steps])
    for spot in steps:
        if longest > 0 and lengths.get((UP, spot), 0) == longest:
            return _way_of(steps, (UP, spot), lengths)
    return ()


def _leads_on(steps, calls, here, after):
    """Whether a step leads from a spot to the next one of a way; calls are those of the way that are not over."""
    entered, nexts, outs = steps[here]
    if entered is not None:
        calls.append(here)
        return after == entered
    if outs is None:
        return after in nexts
    return after == _behind(calls.pop()) if len(calls) > 0 else after in outs


def is_way(program, looks, value):
    """Whether any value is a way without looks."""
    _need_both(program, looks)
    if not isinstance(value, tuple) or len(value) == 0:
        return False
    steps = _steps_within(program)
    if not all([program.has_spot(spot) and spot in steps and spot not in looks for spot in value]):
        return False
    calls = []
    return all([_leads_on(steps, calls, here, after) for here, after in zip(value, value[1:])])


def pause_at(run, looks, t):
    """How many steps are done from a moment on until a look is the spot of the next one, or the end."""
    need_run(run)
    _need_looks(run.program(), looks)
    need_moment(run, t)
    now = t
    while now < run.last() and run.spot_at(now) not in looks:
        now = now + 1
    return now - t


def _is_menu(program, looks, value):
    if not isinstance(value, tuple) or not 1 <= len(value) <= MOST_MENU:
        return False
    if not all([program.has_spot(spot) for spot in value]):
        return False
    come = _come_within(program)
    return len(set(value)) == len(value) and all([spot in come and spot not in looks for spot in value])


def _is_bounded(steps, looks, most):
    bound = _bound_within(steps, looks)
    return bound is not None and bound <= most


def least_looks(program, looks, menu, most):
    """The list of the least parts of a menu that, with the looks, have a bound of at most so much."""
    _need_both(program, looks)
    if not _is_menu(program, looks, menu):
        raise NoMenu(menu)
    if not is_number(most) or most < 0:
        raise NoCount(most)
    steps = _steps_within(program)
    return least_parts(menu, lambda part: _is_bounded(steps, list(looks) + list(part), most))
