"""Putting a variable otherwise at a stop of a made stretch: into which places the value must go."""

from itertools import combinations

from plainmoment.checks import is_name, is_tuple_of, is_value, is_within
from plainmoment.errors import NoPlaces, NoValue, NoValues, NoVariable, TooMany
from plainmoment.made import (
    REGISTERS, first_showing, made_table, made_terms, need_right, need_right_stop, places_showing)
from plainmoment.maderuns import need_begin, need_plain_run
from plainmoment.rows import reckoned
from plainmoment.stretches import length_of, rows_ahead, terms_behind, terms_of, worth_by

NEW = ("new",)
MOST_SITES = 7


def _is_told(program, made, stop, value):
    """Whether any value is a variable that the table tells at a stop."""
    return is_name(value) and made_table(program, made, stop).get(value) is not None


def _need_wish(program, made, stop, variable):
    need_right_stop(program, made, stop)
    if not _is_told(program, made, stop, variable):
        raise NoVariable(variable)


def _is_put(sites, value):
    if not isinstance(value, tuple) or not all([isinstance(place, str) and place in sites for place in value]):
        return False
    order = [sites.index(place) for place in value]
    return order == sorted(set(order))


def _need_put(program, made, stop, variable, put):
    _need_wish(program, made, stop, variable)
    if not _is_put(places_showing(program, made, stop, variable), put):
        raise NoPlaces(put)


def sites_at(program, made, stop, variable):
    """The tuple of the sites of a variable that the table tells at a stop."""
    _need_wish(program, made, stop, variable)
    return tuple(places_showing(program, made, stop, variable))


def _branch_terms(program, made, stop, variable):
    """For a stop and each later one the dict from the variables to their branch terms."""
    first = made[2][stop]
    begun = terms_of(program, made[0], first)
    begun[variable] = NEW
    return [terms_behind(rows_ahead(program, made[0], label)[first:], begun) for label in made[2][stop:]]


def _terms_behind_put(program, made, stop, put):
    """For a stop and each later one the dict from the places to their terms behind a put."""
    begun = made_terms(program, made, stop)
    for place in put:
        begun[place] = NEW
    told = [begun]
    for row in made[1][stop:]:
        told.append(terms_behind([row], told[-1]))
    return told


def table_behind(program, made, stop, variable, put):
    """For a stop and each later one the new table behind a put: the dict from the variables to places or None."""
    _need_put(program, made, stop, variable, put)
    branch = _branch_terms(program, made, stop, variable)
    told = _terms_behind_put(program, made, stop, put)
    return [{name: first_showing(held, terms[name], name) for name in terms} for held, terms in zip(told, branch)]


def _homes_wanted(program, made, stop, variable):
    """The dict from the homes to the branch terms that they need at the last stop."""
    return _branch_terms(program, made, stop, variable)[-1]


def _closes(program, made, stop, wanted, put):
    held = _terms_behind_put(program, made, stop, put)[-1]
    return all([held[home] == term for home, term in wanted.items()])


def is_closed_put(program, made, stop, variable, put):
    """Whether behind a put each home has the branch term of its variable at the last stop."""
    _need_put(program, made, stop, variable, put)
    return _closes(program, made, stop, _homes_wanted(program, made, stop, variable), put)


def _places_wanted(program, made, stop, variable):
    """For a stop and each later one the list of (variable, place that the table tells, branch term)."""
    wanted = []
    for later, terms in enumerate(_branch_terms(program, made, stop, variable), start=stop):
        table = made_table(program, made, later)
        wanted.append([(name, table[name], terms[name]) for name in table if table[name] is not None])
    return wanted


def _first_wrong(program, made, stop, wanted, put):
    for later, held in enumerate(_terms_behind_put(program, made, stop, put)):
        for name, place, term in wanted[later]:
            if held[place] != term:
                return (stop + later, name)
    return None


def first_wrong(program, made, stop, variable, put):
    """The pair of the first stop and variable that the table tells wrongly behind a put, None if it is good."""
    _need_put(program, made, stop, variable, put)
    return _first_wrong(program, made, stop, _places_wanted(program, made, stop, variable), put)


def is_good_put(program, made, stop, variable, put):
    """Whether behind a put all that the table tells, at a stop and later, has its branch term."""
    return first_wrong(program, made, stop, variable, put) is None


def _puts_at(program, made, stop, variable):
    """All puts, by how many sites they have, then site by site."""
    sites = places_showing(program, made, stop, variable)
    if len(sites) > MOST_SITES:
        raise TooMany(MOST_SITES)
    return [put for size in range(len(sites) + 1) for put in combinations(sites, size)]


def _least_of(puts):
    """Those of puts, smaller ones ahead, that have none of the others in them."""
    least = []
    for put in puts:
        if not any([all([place in put for place in other]) for other in least]):
            least.append(put)
    return least


def closed_puts(program, made, stop, variable):
    """The list of the least closed puts."""
    _need_wish(program, made, stop, variable)
    wanted = _homes_wanted(program, made, stop, variable)
    puts = _puts_at(program, made, stop, variable)
    return _least_of([put for put in puts if _closes(program, made, stop, wanted, put)])


def good_puts(program, made, stop, variable):
    """The list of the least good puts."""
    _need_wish(program, made, stop, variable)
    wanted = _places_wanted(program, made, stop, variable)
    puts = _puts_at(program, made, stop, variable)
    return _least_of([put for put in puts if _first_wrong(program, made, stop, wanted, put) is None])


def put_paper(program, made, stop, variable):
    """The paper of the first good put, or the one that all puts with the first of the sites are wrong."""
    found = good_puts(program, made, stop, variable)
    if len(found) > 0:
        return ("good", stop, variable, found[0])
    wanted = _places_wanted(program, made, stop, variable)
    first = places_showing(program, made, stop, variable)[0]
    rows = []
    for put in _puts_at(program, made, stop, variable):
        if first in put:
            later, name = _first_wrong(program, made, stop, wanted, put)
            rows.append((put, later, name))
    return ("none", stop, variable, rows)


def _is_wrong_row(program, made, stop, sites, wanted, row):
    """Whether any value tells a put with the first of the sites, and a stop and a variable told wrongly behind it."""
    if not is_tuple_of(row, 3) or not _is_put(sites, row[0]) or sites[0] not in row[0]:
        return False
    put, later, variable = row
    if not is_within(later, stop, len(made[1])) or not is_name(variable):
        return False
    held = _terms_behind_put(program, made, stop, put)[later - stop]
    return any([name == variable and held[place] != term for name, place, term in wanted[later - stop]])


def _shows_none(program, made, stop, variable, rows):
    sites = places_showing(program, made, stop, variable)
    many = 1
    for _ in sites[1:]:
        many = many * 2
    if not isinstance(rows, (list, tuple)) or len(rows) != many:
        return False
    wanted = _places_wanted(program, made, stop, variable)
    if not all([_is_wrong_row(program, made, stop, sites, wanted, row) for row in rows]):
        return False
    return len({row[0] for row in rows}) == many


def accepts_put(program, made, paper):
    """Whether any value is a right paper of one of both kinds."""
    need_right(program, made)
    if not is_tuple_of(paper, 4) or not isinstance(paper[0], str):
        return False
    word, stop, variable, told = paper
    if not is_within(stop, 0, len(made[1])) or not _is_told(program, made, stop, variable):
        return False
    if word == "none":
        return _shows_none(program, made, stop, variable, told)
    if word != "good" or not _is_put(places_showing(program, made, stop, variable), told):
        return False
    return is_good_put(program, made, stop, variable, told)


def _need_numbers(program, made, value, values):
    if not is_value(value):
        raise NoValue(value)
    if not isinstance(values, dict):
        raise NoValues(values)
    variables = program.variables_of(made[0][0])
    if not all([is_name(name) and name in variables and is_value(held) for name, held in values.items()]):
        raise NoValues(values)


def _done(rows, begun):
    """The values behind sets and copies, plain or made, by the dict of those ahead of them."""
    held = dict(begun)
    for row in rows:
        if row[0] == "copy":
            held[row[1]] = worth_by(row[2], held)
        else:
            held[row[1]] = reckoned(row[2], worth_by(row[3], held), worth_by(row[4], held))
    return held


def _begun_with(program, made, values):
    return {name: values.get(name, 0) for name in program.variables_of(made[0][0])}


def homes_behind(program, made, stop, variable, put, value, values):
    """The dict from the variables to what their homes have at the end of the made rows, done with numbers."""
    _need_put(program, made, stop, variable, put)
    _need_numbers(program, made, value, values)
    homes = _begun_with(program, made, values)
    begun = dict(homes)
    for place in REGISTERS:
        begun[place] = 0
    held = _done(made[1][:stop], begun)
    for place in put:
        held[place] = value
    behind = _done(made[1][stop:], held)
    return {name: behind[name] for name in homes}


def plain_behind(program, made, stop, variable, value, values):
    """The dict from the variables to what they have at the end of the rows of the stretch, done with numbers."""
    _need_wish(program, made, stop, variable)
    _need_numbers(program, made, value, values)
    label = made[2][stop]
    rows = rows_ahead(program, made[0], length_of(made[0]))
    held = _done(rows[:label], _begun_with(program, made, values))
    held[variable] = value
    return _done(rows[label:], held)


def change_at(run, made, begin, stop, variable, value):
    """The change that puts a value at a variable of the top frame at the plain moment of a begin and a stop."""
    need_plain_run(run)
    need_right(run.program(), made)
    need_begin(run, made, begin)
    _need_wish(run.program(), made, stop, variable)
    if not is_value(value):
        raise NoValue(value)
    return (begin + made[2][stop], run.state(begin)[1][-1][0], variable, value)
