"""Made landings: at which stops of a made stretch an edit may land, and what is shown where it does."""

from plainmoment.alive import live_at
from plainmoment.checks import is_number, is_tuple_of, is_within
from plainmoment.edits import Edit
from plainmoment.errors import NoEdit, NoLanding
from plainmoment.landings import goal_in, gone_in, own_run
from plainmoment.made import made_table, need_right, need_right_stop
from plainmoment.maderuns import is_begin, need_begin, need_plain_run
from plainmoment.states import value_of


def begins(run, made):
    """The list of the moments at which the stretch of a made stretch begins, ascending."""
    need_plain_run(run)
    need_right(run.program(), made)
    return [t for t in range(run.last()) if is_begin(run, made, t)]


def _need_edit(edit):
    if not isinstance(edit, Edit):
        raise NoEdit(edit)


def _need_stop_of(edit, made, stop):
    _need_edit(edit)
    need_right_stop(edit.old(), made, stop)


def _led_spot(edit, made, stop):
    """The spot that an edit tells for the row of a stop, or None."""
    stretch, _, labels = made
    return edit.to((stretch[0], stretch[1] + labels[stop]))


def _needs(edit, made, stop):
    """The variables live where an edit leads from a stop, None if it tells no spot; nothing is asked."""
    spot = _led_spot(edit, made, stop)
    return None if spot is None else live_at(edit.new(), spot)


def _untold(edit, made, stop):
    """The list of the variables of the stretch that the table does not tell at a stop."""
    return [variable for variable, place in made_table(edit.old(), made, stop).items() if place is None]


def _hinders(edit, made, stop):
    needs = _needs(edit, made, stop)
    if needs is None:
        return None
    untold = _untold(edit, made, stop)
    return tuple([variable for variable in needs if variable in untold])


def _suits(edit, made, stop):
    hinders = _hinders(edit, made, stop)
    return hinders is not None and len(hinders) == 0


def needs_at(edit, made, stop):
    """The tuple of the needs of a stop, ascending; None if the edit tells no spot for its row."""
    _need_stop_of(edit, made, stop)
    return _needs(edit, made, stop)


def hinders_at(edit, made, stop):
    """The tuple of the needs of a stop that are not told there, ascending; None if the edit tells no spot."""
    _need_stop_of(edit, made, stop)
    return _hinders(edit, made, stop)


def suits(edit, made, stop):
    """Whether an edit tells a spot for the row of a stop, and nothing hinders."""
    _need_stop_of(edit, made, stop)
    return _suits(edit, made, stop)


def _need_edit_of(run, edit):
    need_plain_run(run)
    if not isinstance(edit, Edit) or edit.old() != run.program():
        raise NoEdit(edit)


def _need_begin_of(run, edit, made, begin):
    _need_edit_of(run, edit)
    need_right(run.program(), made)
    need_begin(run, made, begin)


def _need_all(run, edit, made, begin, stop):
    _need_begin_of(run, edit, made, begin)
    need_right_stop(run.program(), made, stop)


def _gone_at(run, edit, made, begin, stop):
    """The list of the cells of the top frame that are gone at a stop."""
    born = run.state(begin)[1][-1][0]
    return [(born, variable) for variable in _untold(edit, made, stop)]


def _goal(run, edit, own, made, begin, stop):
    """The goal of a made landing in the own run, or None; nothing is asked of what is handed in."""
    if not _suits(edit, made, stop):
        return None
    return goal_in(run, edit, own, begin + made[2][stop], _gone_at(run, edit, made, begin, stop))


def made_goal(run, edit, made, begin, stop):
    """The goal of the made landing of a begin and a stop, or None."""
    _need_all(run, edit, made, begin, stop)
    return _goal(run, edit, own_run(run, edit), made, begin, stop)


def landing_stops(run, edit, made, begin):
    """The list of the stops whose made landing has a goal, ascending."""
    _need_begin_of(run, edit, made, begin)
    own = own_run(run, edit)
    stops = list(range(len(made[1]) + 1))
    return [stop for stop in stops if _goal(run, edit, own, made, begin, stop) is not None]


def made_shown(run, edit, made, begin, stop):
    """The dict from the variables of the top frame at the goal, ascending, to what the made landing shows."""
    _need_all(run, edit, made, begin, stop)
    own = own_run(run, edit)
    goal = _goal(run, edit, own, made, begin, stop)
    if goal is None:
        raise NoLanding(None)
    gone = gone_in(run, edit, own, goal, _gone_at(run, edit, made, begin, stop))
    born, name, _, values = own.state(goal)[1][-1]
    variables = edit.new().variables_of(name)
    return {one: None if (born, one) in gone else value_of(values, one) for one in variables}


def made_paper(run, edit, made, begin, stop):
    """The paper of a made landing that has a goal, or of the first need that hinders it; None without either."""
    goal = made_goal(run, edit, made, begin, stop)
    if goal is not None:
        return ("lands", begin, stop, goal)
    hinders = _hinders(edit, made, stop)
    return ("hindered", begin, stop, hinders[0]) if hinders is not None and len(hinders) > 0 else None


def _is_stand(run, made, begin, stop):
    """Whether any two values are a begin and a stop."""
    if not is_within(begin, 0, run.last() - 1) or not is_begin(run, made, begin):
        return False
    return is_within(stop, 0, len(made[1]))


def accepts_made(run, edit, made, paper):
    """Whether any value is a right paper of a made landing."""
    _need_edit_of(run, edit)
    need_right(run.program(), made)
    if not is_tuple_of(paper, 4) or not isinstance(paper[0], str) or not _is_stand(run, made, paper[1], paper[2]):
        return False
    word, begin, stop, told = paper
    if word == "lands":
        return is_number(told) and _goal(run, edit, own_run(run, edit), made, begin, stop) == told
    hinders = _hinders(edit, made, stop)
    return word == "hindered" and isinstance(told, str) and hinders is not None and told in hinders
