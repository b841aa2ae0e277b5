"""Made code, and what it shows at its moments in a run without changes."""

from plainmoment.checks import is_name, is_number, is_tuple_of, is_within
from plainmoment.errors import NoMade, NoMoment, NoRun, NoVariable
from plainmoment.made import is_made, made_beside, made_is_right, made_table, made_terms, places_within, plain_made_of
from plainmoment.programs import need_program
from plainmoment.runs import Run
from plainmoment.states import value_of
from plainmoment.stretches import length_of, need_stretch, stretch_of, stretches, worth_by


def _mades_by_spots(program, mades):
    """The dict from each spot in a stretch to the made stretch that does its row."""
    found = {}
    for spot in program.spots():
        stretch = stretch_of(program, spot)
        if stretch is not None:
            found[spot] = mades[stretch]
    return found


class Made:
    """Made code of a program; it never changes."""

    def __init__(self, program, mades=()):
        need_program(program)
        if not isinstance(mades, (list, tuple)):
            raise NoMade(None)
        given = {}
        for index, made in enumerate(mades):
            if not is_made(program, made) or not made_is_right(program, made) or made[0] in given:
                raise NoMade(index)
            given[made[0]] = made
        self._program = program
        self._listed = [given[stretch] for stretch in stretches(program) if stretch in given]
        self._mades = {stretch: given.get(stretch, plain_made_of(program, stretch)) for stretch in stretches(program)}
        self._by_spots = _mades_by_spots(program, self._mades)

    def __eq__(self, other):
        return isinstance(other, Made) and self._program == other._program and self._listed == other._listed

    def program(self):
        """The program of which it is made code."""
        return self._program

    def made_of(self, stretch):
        """The made stretch that it has for a stretch, otherwise the plain one."""
        need_stretch(self._program, stretch)
        return self._mades[stretch]

    def made_by_spot(self, spot):
        """The made stretch that does the row of a spot, None where the row is in no stretch."""
        return self._by_spots.get(spot)

    def listed(self):
        """The made stretches that were handed in, by procedures, then first rows."""
        return list(self._listed)


def need_plain_run(run):
    """Refuses any value that is no run without changes."""
    if not isinstance(run, Run) or len(run.changes()) > 0:
        raise NoRun(run)


def is_begin(run, made, t):
    """Whether a step of a run does the first row of the stretch of a made stretch."""
    return run.spot_at(t) == made[0][:2]


def need_begin(run, made, begin):
    """Refuses any value that is no moment of a run at which the stretch of a made stretch begins."""
    if not is_within(begin, 0, run.last() - 1) or not is_begin(run, made, begin):
        raise NoMoment(begin)


def _need_both(code, run):
    if not isinstance(code, Made):
        raise NoMade(code)
    need_plain_run(run)
    if run.program() != code.program():
        raise NoRun(run)


def _made_at(code, run, t):
    """The made stretch that does step t, of whichever of its rows; None without one, and at the end."""
    return None if t == run.last() else code.made_by_spot(run.spot_at(t))


def _is_here(code, run, value):
    if not is_tuple_of(value, 2) or not is_within(value[0], 0, run.last()):
        return False
    t, stop = value
    made = _made_at(code, run, t)
    if made is None:
        return stop is None
    return made[0][1] == run.spot_at(t)[1] and is_within(stop, 0, len(made[1]))


def _need_here(code, run, here):
    _need_both(code, run)
    if not _is_here(code, run, here):
        raise NoMoment(here)


def _plain_of(code, run, here):
    t, stop = here
    return t if stop is None else t + _made_at(code, run, t)[2][stop]


def _first_from(code, run, t):
    """The first made moment of a moment at which no stretch is half done."""
    return (t, None) if _made_at(code, run, t) is None else (t, 0)


def _behind(code, run, here):
    """The made moment behind one, None behind the end."""
    t, stop = here
    if t == run.last():
        return None
    if stop is None:
        return _first_from(code, run, t + 1)
    made = _made_at(code, run, t)
    return (t, stop + 1) if stop < len(made[1]) else _first_from(code, run, t + length_of(made[0]))


def _ahead(code, run, here):
    """The made moment ahead of one, None ahead of the first."""
    t, stop = here
    if stop is not None and stop > 0:
        return (t, stop - 1)
    if t == 0:
        return None
    made = _made_at(code, run, t - 1)
    return (t - 1, None) if made is None else (t - length_of(made[0]), len(made[1]))


def _first_of_its_moment(code, run, here):
    """The first made moment that has the plain moment of this one."""
    found = here
    there = _ahead(code, run, here)
    while there is not None and _plain_of(code, run, there) == _plain_of(code, run, here):
        found = there
        there = _ahead(code, run, there)
    return found


def made_moments(code, run):
    """The list of the made moments of made code in a run, in order."""
    _need_both(code, run)
    found = []
    here = _first_from(code, run, 0)
    while here is not None:
        found.append(here)
        here = _behind(code, run, here)
    return found


def plain_moment(code, run, here):
    """The plain moment of a made moment."""
    _need_here(code, run, here)
    return _plain_of(code, run, here)


def _has_register(term):
    if is_tuple_of(term, 3):
        return _has_register(term[1]) or _has_register(term[2])
    return not is_number(term) and not is_name(term)


def _values_at(run, t):
    frame = run.state(t)[1][-1]
    return {variable: value_of(frame[3], variable) for variable in run.program().variables_of(frame[1])}


def _terms_at(code, run, here):
    t, stop = here
    if stop is None:
        return {place: place for place in places_within(run.program(), run.spot_at(t)[0])}
    return made_terms(run.program(), _made_at(code, run, t), stop)


def _held_at(code, run, here):
    """What the places of the top frame's procedure have at a made moment ahead of the end."""
    values = _values_at(run, here[0])
    terms = _terms_at(code, run, here)
    return {place: None if _has_register(term) else worth_by(term, values) for place, term in terms.items()}


def places_at(code, run, here):
    """The dict from the places of the top frame's procedure, in order, to their values, None of what is lost."""
    _need_here(code, run, here)
    return {} if here[0] == run.last() else _held_at(code, run, here)


def _is_variable_at(run, t, value):
    if t == run.last() or not is_name(value):
        return False
    return value in run.program().variables_of(run.spot_at(t)[0])


def told_at(code, run, here, variable):
    """What is told of a variable of the top frame at a made moment."""
    _need_here(code, run, here)
    t, stop = here
    if not _is_variable_at(run, t, variable):
        raise NoVariable(variable)
    held = _held_at(code, run, here)
    if stop is None:
        return ("shown", held[variable])
    made = _made_at(code, run, t)
    place = made_table(run.program(), made, stop)[variable]
    if place is not None:
        return ("shown", held[place])
    beside = made_beside(run.program(), made, stop, variable)
    if beside[0] == "strange":
        return ("strange", held[variable])
    return (beside[0], t + beside[1], held[variable])


def _begin_of(code, run, t):
    """The moment at which the stretch that does step t was begun, t itself where none does."""
    made = _made_at(code, run, t)
    return t if made is None else t - (run.spot_at(t)[1] - made[0][1])


def moments_of(code, run, t):
    """The list of the made moments of a plain moment, in order, perhaps none."""
    _need_both(code, run)
    if not is_within(t, 0, run.last()):
        raise NoMoment(t)
    here = _first_from(code, run, _begin_of(code, run, t))
    # The last stops of a stretch that is just done have the moment at which the next row begins.
    ahead = _ahead(code, run, here)
    if ahead is not None:
        here = _first_of_its_moment(code, run, ahead)
    found = []
    while here is not None and _plain_of(code, run, here) <= t:
        if _plain_of(code, run, here) == t:
            found.append(here)
        here = _behind(code, run, here)
    return found


def step_on(code, run, here):
    """The first made moment of the next seen moment, None without one."""
    _need_here(code, run, here)
    there = _behind(code, run, here)
    while there is not None and _plain_of(code, run, there) == _plain_of(code, run, here):
        there = _behind(code, run, there)
    return there


def step_back(code, run, here):
    """The first made moment of the seen moment ahead, None without one."""
    _need_here(code, run, here)
    there = _ahead(code, run, _first_of_its_moment(code, run, here))
    return None if there is None else _first_of_its_moment(code, run, there)
