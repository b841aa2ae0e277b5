"""All roads: journeys that come to one moment, what they cost, and by which variables a moment is told."""

from itertools import combinations

from plainmoment.checks import is_ascending, is_listed, is_name, is_number, is_tuple_of, is_within
from plainmoment.errors import NoCount, NoMenu, NoMoment, NoRoad
from plainmoment.parts import least_parts
from plainmoment.runs import MOST_CHANGES, by_moments, need_moment, need_run
from plainmoment.states import frame_of, value_of

MOST_HOPS = 20
MOST_VISITS = 8
MOST_KEPT = 4
MOST_MENU = 8


def _is_cell_ahead(run, t, cell):
    """Whether any value is a cell at any moment ahead of the end of a run."""
    return is_within(t, 0, run.last() - 1) and frame_of(run.program(), run.state(t), cell) is not None


def is_still(run, value):
    """Whether any value is a change that puts into a cell, at a moment ahead of the end, what it has there."""
    need_run(run)
    if not is_tuple_of(value, 4) or not is_number(value[3]):
        return False
    t, cell = value[0], value[1:3]
    return _is_cell_ahead(run, t, cell) and run.cell_at(t, cell) == value[3]


def _put(run, t, puts, cell):
    """The puts behind one more at a moment, None if it is not done."""
    if not _is_cell_ahead(run, t, cell):
        return None
    left = [put for put in puts if put[0] <= t]
    return left + [(t, cell[0], cell[1], run.cell_at(t, cell))]


def _is_hop(run, value):
    """Whether any value has the form of a hop on a run; the cell of a put is not asked."""
    if not isinstance(value, tuple) or len(value) == 0 or not isinstance(value[0], str):
        return False
    word, parts = value[0], value[1:]
    if word in ("on", "back"):
        return len(parts) == 1 and is_number(parts[0]) and parts[0] >= 0
    if word == "from":
        return len(parts) == 2 and is_within(parts[0], 0, run.last()) and is_within(parts[1], parts[0], run.last())
    return word == "put" and len(parts) == 2


def _hopped(run, t, puts, hop):
    """The pair of the moment and the puts behind any value, None if it is no hop or does not go."""
    if not _is_hop(run, hop):
        return None
    word = hop[0]
    if word == "put":
        puts = _put(run, t, puts, hop[1:])
        return None if puts is None or len(puts) + len(run.changes()) > MOST_CHANGES else (t, puts)
    if word == "from":
        return (hop[2], puts)
    there = t + hop[1] if word == "on" else t - hop[1]
    return (there, puts) if is_within(there, 0, run.last()) else None


def _gone_along(run, journey):
    """The pair of the moments behind the hops of a journey, and of its puts."""
    need_run(run)
    if not is_listed(journey, MOST_HOPS):
        raise NoRoad(None)
    moments = []
    here = (0, [])
    for index, hop in enumerate(journey):
        here = _hopped(run, here[0], here[1], hop)
        if here is None:
            raise NoRoad(index)
        moments.append(here[0])
    return (moments, here[1])


def journey_moments(run, journey):
    """The list of the moments behind the hops of a journey."""
    return _gone_along(run, journey)[0]


def journey_changes(run, journey):
    """The tuple of the changes of a journey: those of the run and its puts."""
    puts = _gone_along(run, journey)[1]
    return tuple(by_moments(list(run.changes()) + puts))


def _are_kept(run, value):
    if not isinstance(value, (list, tuple)) or len(value) == 0:
        return False
    return is_ascending(tuple(value), 0, run.last()) and value[0] == 0


def _need_kept(run, kept):
    need_run(run)
    if not _are_kept(run, kept):
        raise NoCount(kept)


def _step_cost(kept, now, t, back):
    """The least number of steps from a moment, or from nowhere, and from kept moments; nothing is asked of these."""
    costs = [t - moment for moment in kept if moment <= t]
    if now is not None and now <= t:
        costs.append(t - now)
    if back:
        costs.extend([moment - t for moment in kept if moment > t])
        if now is not None and now > t:
            costs.append(now - t)
    return min(costs)


def step_cost(run, kept, now, t, *, back=False):
    """The least number of steps to a moment from the one now, if there is one, or from a kept moment."""
    _need_kept(run, kept)
    if now is not None:
        need_moment(run, now)
    need_moment(run, t)
    return _step_cost(kept, now, t, back is True)


def _need_visits(run, visits):
    if not is_listed(visits, MOST_VISITS) or not all([is_within(t, 0, run.last()) for t in visits]):
        raise NoMoment(visits)


def _visits_cost(kept, visits, back):
    cost = 0
    now = None
    for t in visits:
        cost = cost + _step_cost(kept, now, t, back)
        now = t
    return cost


def visits_cost(run, kept, visits, *, back=False):
    """The cost of going to moments, one behind the other, from nowhere."""
    _need_kept(run, kept)
    _need_visits(run, visits)
    return _visits_cost(kept, visits, back is True)


def best_kept(run, visits, many, *, back=False):
    """The pair of the best kept moments for visits, so many at most, and of what the visits cost by them."""
    need_run(run)
    _need_visits(run, visits)
    if not is_within(many, 1, MOST_KEPT):
        raise NoCount(many)
    visited = sorted({t for t in visits if t > 0})
    found = []
    for size in range(min(many - 1, len(visited)) + 1):
        for others in combinations(visited, size):
            kept = (0,) + others
            found.append((_visits_cost(kept, visits, back is True), len(kept), kept))
    cost, _, kept = min(found)
    return (kept, cost)


def _is_menu(value):
    if not is_listed(value, MOST_MENU) or not all([is_name(name) for name in value]):
        return False
    return len(set(value)) == len(value)


def _need_menu(run, t, menu):
    need_run(run)
    need_moment(run, t)
    if not _is_menu(menu):
        raise NoMenu(menu)


def _worth_of(run, frame, name):
    return value_of(frame[3], name) if name in run.program().variables_of(frame[1]) else None


def _sight(run, t, menu):
    """The sight of a moment by a menu; nothing is asked of what is handed in."""
    if t == run.last():
        return (None, ())
    frame = run.state(t)[1][-1]
    return (run.spot_at(t), tuple([_worth_of(run, frame, name) for name in menu]))


def sight_at(run, t, menu):
    """The pair of the spot of a moment and of the values that the top frame has of the variables of a menu."""
    _need_menu(run, t, menu)
    return _sight(run, t, menu)


def _moments_like(run, t, menu):
    sight = _sight(run, t, menu)
    return [other for other in range(run.last() + 1) if _sight(run, other, menu) == sight]


def moments_like(run, t, menu):
    """The list of all moments with the sight of a moment, ascending."""
    _need_menu(run, t, menu)
    return _moments_like(run, t, menu)


def tells(run, t, menu):
    """Whether no other moment of the run has the sight of a moment by a menu."""
    return moments_like(run, t, menu) == [t]


def _told_apart(run, t, menu):
    """For each other moment at the spot of a moment the names of a menu by which both sights are unlike, each such
    tuple once."""
    spot, values = _sight(run, t, menu)
    found = []
    for other in range(run.last() + 1):
        there, others = _sight(run, other, menu)
        if other != t and there == spot:
            found.append(tuple([name for at, name in enumerate(menu) if values[at] != others[at]]))
    return sorted(set(found))


def _is_told(apart, part):
    """Whether a part of a menu has a name by which each other moment is told apart."""
    return all([any([name in part for name in unlike]) for unlike in apart])


def _least_menus(run, t, menu):
    apart = _told_apart(run, t, menu)
    return least_parts(menu, lambda part: _is_told(apart, part))


def least_menus(run, t, menu):
    """The list of the least parts of a menu that tell a moment, as tuples in its order."""
    _need_menu(run, t, menu)
    return _least_menus(run, t, menu)


def sight_paper(run, t, menu):
    """The paper that a menu tells a moment, or that another moment has the same sight by it."""
    _need_menu(run, t, menu)
    least = _least_menus(run, t, menu)
    if len(least) > 0:
        return ("told", t, least[0])
    others = [other for other in _moments_like(run, t, menu) if other != t]
    return ("alike", t, others[0], tuple(menu))


def accepts_sight(run, value):
    """Whether any value is a right paper of one of both kinds, of some moment of a run."""
    need_run(run)
    if not isinstance(value, tuple) or len(value) not in (3, 4) or not isinstance(value[0], str):
        return False
    moments, menu = value[1:-1], value[-1]
    if not all([is_within(t, 0, run.last()) for t in moments]) or not isinstance(menu, tuple) or not _is_menu(menu):
        return False
    if value[0] == "told":
        return len(moments) == 1 and _moments_like(run, moments[0], menu) == [moments[0]]
    if value[0] != "alike" or len(moments) != 2 or moments[0] == moments[1]:
        return False
    return _sight(run, moments[0], menu) == _sight(run, moments[1], menu)
