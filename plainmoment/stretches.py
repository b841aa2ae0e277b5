"""Stretches of sets and copies, and the terms of variables within them."""

from plainmoment.checks import is_name, is_number, is_tuple_of, is_value, is_within
from plainmoment.errors import NoLabel, NoStretch, NoTerm, NoValues, NoVariable
from plainmoment.programs import need_procedure, need_program, need_spot
from plainmoment.rows import is_op, is_operand, reckoned

MOST_OPS_WITHIN = 24


def _is_plain(row):
    return row[0] in ("set", "copy")


def _beginnings(rows):
    found = [0]
    for index, row in enumerate(rows):
        if row[0] in ("if", "go"):
            found.append(row[-1])
        if not _is_plain(row) and index + 1 < len(rows):
            found.append(index + 1)
    return sorted(set(found))


def beginnings(program, procedure):
    """The ascending list of the rows at which stretches of a procedure may begin."""
    need_procedure(program, procedure)
    return _beginnings(program.procedure(procedure)[2])


def _stretches_within(name, rows):
    begun = _beginnings(rows)
    found = []
    for index, row in enumerate(rows):
        if not _is_plain(row):
            continue
        if index in begun:
            found.append((name, index, index))
        else:
            found[-1] = (name, found[-1][1], index)
    return found


def stretches(program):
    """All stretches of a program, procedure by procedure, by their first rows."""
    need_program(program)
    found = []
    for name in program.names():
        found.extend(_stretches_within(name, program.procedure(name)[2]))
    return found


def stretch_of(program, spot):
    """The stretch that has the row of a spot, or None."""
    need_spot(program, spot)
    for stretch in _stretches_within(spot[0], program.procedure(spot[0])[2]):
        if stretch[1] <= spot[1] <= stretch[2]:
            return stretch
    return None


def length_of(stretch):
    """How many rows a stretch has; it is its last label, too."""
    return stretch[2] - stretch[1] + 1


def is_stretch(program, value):
    """Whether any value is a stretch of a program."""
    if not is_tuple_of(value, 3) or not program.has_spot(value[:2]) or not is_number(value[2]):
        return False
    return stretch_of(program, value[:2]) == value


def need_stretch(program, stretch):
    """Refuses any value that is no program, and then any that is no stretch of it."""
    need_program(program)
    if not is_stretch(program, stretch):
        raise NoStretch(stretch)


def rows_ahead(program, stretch, label):
    """The rows of a stretch that are ahead of a label."""
    return program.procedure(stretch[0])[2][stretch[1]:stretch[1] + label]


def _is_term(value, most):
    if is_operand(value):
        return True
    if most == 0 or not is_tuple_of(value, 3) or not is_op(value[0]):
        return False
    return _is_term(value[1], most - 1) and _is_term(value[2], most - 1)


def is_term(value):
    """Whether any value is a term."""
    return _is_term(value, MOST_OPS_WITHIN)


def _term_of(part, terms):
    return part if is_number(part) else terms[part]


def terms_behind(rows, terms):
    """The terms behind sets and copies, plain or made, by the dict of those ahead of them."""
    behind = dict(terms)
    for row in rows:
        if row[0] == "copy":
            behind[row[1]] = _term_of(row[2], behind)
        else:
            behind[row[1]] = (row[2], _term_of(row[3], behind), _term_of(row[4], behind))
    return behind


def terms_of(program, stretch, label):
    """The terms of the variables at a label; nothing is asked of what is handed in."""
    begun = {variable: variable for variable in program.variables_of(stretch[0])}
    return terms_behind(rows_ahead(program, stretch, label), begun)


def terms_at(program, stretch, label):
    """The dict from the variables, ascending, to their terms at a label of a stretch."""
    need_stretch(program, stretch)
    if not is_within(label, 0, length_of(stretch)):
        raise NoLabel(label)
    return terms_of(program, stretch, label)


def _are_values(value):
    if not isinstance(value, dict):
        return False
    return all([is_name(name) and is_value(held) for name, held in value.items()])


def worth_by(term, values):
    """The value of a term by a dict that has all its variables."""
    if is_number(term):
        return term
    if is_tuple_of(term, 3):
        return reckoned(term[0], worth_by(term[1], values), worth_by(term[2], values))
    return values[term]


def _first_lacking(term, values):
    if is_tuple_of(term, 3):
        lacking = _first_lacking(term[1], values)
        return _first_lacking(term[2], values) if lacking is None else lacking
    return term if is_name(term) and term not in values else None


def worth(term, values):
    """The value of a term by a dict from variables to values."""
    if not is_term(term):
        raise NoTerm(term)
    if not _are_values(values):
        raise NoValues(values)
    lacking = _first_lacking(term, values)
    if lacking is not None:
        raise NoVariable(lacking)
    return worth_by(term, values)
