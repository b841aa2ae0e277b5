"""Made stretches: what their places hold, what is shown in them, and papers about it."""

from plainmoment.checks import is_listed, is_name, is_number, is_tuple_of, is_value, is_within
from plainmoment.errors import NoMade, NoStop, NoVariable
from plainmoment.programs import need_procedure, need_program
from plainmoment.rows import is_op
from plainmoment.stretches import is_stretch, length_of, need_stretch, rows_ahead, terms_behind, terms_of

REGISTERS = ("r0", "r1", "r2", "r3")
MOST_MADE_ROWS = 12


def places_within(program, procedure):
    """The places of a procedure; nothing is asked of what is handed in."""
    return program.variables_of(procedure) + list(REGISTERS)


def places(program, procedure):
    """The list of the places of a procedure: its variables, ascending, then the registers."""
    need_procedure(program, procedure)
    return places_within(program, procedure)


def _is_place(value, among):
    return isinstance(value, str) and value in among


def _is_part(value, among):
    return is_value(value) or _is_place(value, among)


def _is_made_row(value, among):
    if not isinstance(value, tuple) or len(value) < 3 or not isinstance(value[0], str):
        return False
    if value[0] == "copy":
        return len(value) == 3 and _is_place(value[1], among) and _is_part(value[2], among)
    if value[0] != "set" or len(value) != 5 or not _is_place(value[1], among) or not is_op(value[2]):
        return False
    return _is_part(value[3], among) and _is_part(value[4], among)


def _are_labels(value, length, many):
    if not is_tuple_of(value, many + 1):
        return False
    ahead = 0
    for label in value:
        if not is_within(label, ahead, length):
            return False
        ahead = label
    return value[-1] == length and (many == 0 or value[0] == 0)


def is_made(program, value):
    """Whether any value is a made stretch of the program, right or not."""
    need_program(program)
    if not is_tuple_of(value, 3) or not is_stretch(program, value[0]):
        return False
    rows = value[1]
    if not isinstance(rows, tuple) or not is_listed(rows, MOST_MADE_ROWS):
        return False
    among = places_within(program, value[0][0])
    if not all([_is_made_row(row, among) for row in rows]):
        return False
    return _are_labels(value[2], length_of(value[0]), len(rows))


def plain_made_of(program, stretch):
    """The made stretch of the plain rows; nothing is asked of what is handed in."""
    length = length_of(stretch)
    return (stretch, rows_ahead(program, stretch, length), tuple(range(length + 1)))


def plain_made(program, stretch):
    """The made stretch of the plain rows, with the labels 0 to the length."""
    need_stretch(program, stretch)
    return plain_made_of(program, stretch)


def need_made(program, made):
    """Refuses any value that is no program, and then any that is no made stretch of it."""
    if not is_made(program, made):
        raise NoMade(made)


def need_stop(program, made, stop):
    """Refuses as need_made does, and then any value that is no stop."""
    need_made(program, made)
    if not is_within(stop, 0, len(made[1])):
        raise NoStop(stop)


def _is_variable(program, made, value):
    return is_name(value) and value in program.variables_of(made[0][0])


def _need_variable(program, made, stop, variable):
    need_stop(program, made, stop)
    if not _is_variable(program, made, variable):
        raise NoVariable(variable)


def made_terms(program, made, stop):
    """The terms of the places at a stop; nothing is asked of what is handed in."""
    begun = {place: place for place in places_within(program, made[0][0])}
    return terms_behind(made[1][:stop], begun)


def place_terms(program, made, stop):
    """The dict from the places, in order, to their terms at a stop."""
    need_stop(program, made, stop)
    return made_terms(program, made, stop)


def made_is_right(program, made):
    """Whether a made stretch is right; nothing is asked of what is handed in."""
    held = made_terms(program, made, len(made[1]))
    plain = terms_of(program, made[0], length_of(made[0]))
    return all([held[variable] == plain[variable] for variable in program.variables_of(made[0][0])])


def is_right(program, made):
    """Whether behind all made rows each home has the term of its variable behind the stretch."""
    need_made(program, made)
    return made_is_right(program, made)


def need_right(program, made):
    """Refuses any value that is no program, and then any that is no right made stretch of it."""
    if not is_made(program, made) or not made_is_right(program, made):
        raise NoMade(made)


def need_right_stop(program, made, stop):
    """Refuses as need_right does, and then any value that is no stop."""
    need_right(program, made)
    if not is_within(stop, 0, len(made[1])):
        raise NoStop(stop)


def showing_in(held, term, home):
    """The places that have a term, by the dict from all places to theirs; the home is ahead of the others."""
    others = [place for place in held if place != home and held[place] == term]
    return [home] + others if held[home] == term else others


def first_showing(held, term, home):
    """The first of the places that have a term, None if none has."""
    showing = showing_in(held, term, home)
    return showing[0] if len(showing) > 0 else None


def places_showing(program, made, stop, variable):
    """The list of the places that show a variable at a stop; nothing is asked of what is handed in."""
    term = terms_of(program, made[0], made[2][stop])[variable]
    return showing_in(made_terms(program, made, stop), term, variable)


def shown_in(program, made, stop, variable):
    """The list of the places that show a variable at a stop, its own home ahead of the others."""
    _need_variable(program, made, stop, variable)
    return places_showing(program, made, stop, variable)


def made_table(program, made, stop):
    """The table at a stop; nothing is asked of what is handed in."""
    held = made_terms(program, made, stop)
    table = {}
    for variable, term in terms_of(program, made[0], made[2][stop]).items():
        table[variable] = first_showing(held, term, variable)
    return table


def table_at(program, made, stop):
    """The dict from the variables, ascending, to the places that are told of them, None of a gone one."""
    need_stop(program, made, stop)
    return made_table(program, made, stop)


def made_beside(program, made, stop, variable):
    """What is told beside a gone variable; nothing is asked of what is handed in."""
    label = made[2][stop]
    held = made_terms(program, made, stop)[variable]
    for elder in range(label - 1, -1, -1):
        if terms_of(program, made[0], elder)[variable] == held:
            return ("elder", elder)
    for ahead in range(label + 1, length_of(made[0]) + 1):
        if terms_of(program, made[0], ahead)[variable] == held:
            return ("ahead", ahead)
    return ("strange",)


def told_beside(program, made, stop):
    """The dict from the gone variables, ascending, to what is told beside them."""
    need_stop(program, made, stop)
    table = made_table(program, made, stop)
    return {name: made_beside(program, made, stop, name) for name, place in table.items() if place is None}


def _numbers_in(rows):
    return {part: True for row in rows for part in row[2:] if is_number(part)}


def _free_numbers(taken, many):
    return [number for number in range(many + len(taken)) if number not in taken][:many]


def _held_of(part, values):
    return part if is_number(part) else values[part]


def _given_meaning(rows, begun, meaning, free):
    values = dict(begun)
    for row in rows:
        if row[0] == "copy":
            values[row[1]] = _held_of(row[2], values)
            continue
        asked = (row[2], _held_of(row[3], values), _held_of(row[4], values))
        if asked not in meaning:
            meaning[asked] = free.pop()
        values[row[1]] = meaning[asked]


def _telling_apart(program, made, stop):
    """Values and a meaning by which unlike terms have unlike values: each place and op result has its own number."""
    rows = made[1][:stop]
    plain = rows_ahead(program, made[0], made[2][stop])
    among = places_within(program, made[0][0])
    free = _free_numbers(_numbers_in(rows + plain), len(among) + len(rows) + len(plain))
    values = {place: free.pop() for place in among}
    meaning = {}
    _given_meaning(rows, values, meaning, free)
    _given_meaning(plain, values, meaning, free)
    return values, meaning


def shown_paper(program, made, stop, variable):
    """The paper that a variable is shown at a stop, or the one that it is gone."""
    _need_variable(program, made, stop, variable)
    place = made_table(program, made, stop)[variable]
    if place is not None:
        return ("shown", stop, variable, place)
    rows = []
    for one in places_within(program, made[0][0]):
        values, meaning = _telling_apart(program, made, stop)
        rows.append((one, values, meaning))
    return ("gone", stop, variable, rows)


def _is_meaning(value):
    if not isinstance(value, dict):
        return False
    for asked, told in value.items():
        if not is_tuple_of(asked, 3) or not is_op(asked[0]) or not is_value(asked[1]) or not is_value(asked[2]):
            return False
        if not is_value(told):
            return False
    return True


def _are_place_values(value, among):
    if not isinstance(value, dict) or len(value) != len(among):
        return False
    return all([place in value and is_value(value[place]) for place in among])


def _told_by(rows, begun, meaning):
    values = dict(begun)
    for row in rows:
        if row[0] == "copy":
            values[row[1]] = _held_of(row[2], values)
        else:
            asked = (row[2], _held_of(row[3], values), _held_of(row[4], values))
            values[row[1]] = meaning.get(asked)
    return values


def _tells_apart(program, made, stop, variable, row):
    place, values, meaning = row
    held = _told_by(made[1][:stop], values, meaning)[place]
    plain = _told_by(rows_ahead(program, made[0], made[2][stop]), values, meaning)[variable]
    return held is not None and plain is not None and held != plain


def _is_gone_row(value, among):
    if not is_tuple_of(value, 3) or not _is_place(value[0], among):
        return False
    return _are_place_values(value[1], among) and _is_meaning(value[2])


def _shows_gone(program, made, stop, variable, rows):
    among = places_within(program, made[0][0])
    if not isinstance(rows, (list, tuple)) or len(rows) != len(among):
        return False
    if not all([_is_gone_row(row, among) for row in rows]):
        return False
    if len(set([row[0] for row in rows])) != len(among):
        return False
    return all([_tells_apart(program, made, stop, variable, row) for row in rows])


def accepts_shown(program, made, paper):
    """Whether any value is a right paper about what is shown or gone."""
    need_made(program, made)
    if not is_tuple_of(paper, 4) or not isinstance(paper[0], str):
        return False
    word, stop, variable, told = paper
    if not is_within(stop, 0, len(made[1])) or not _is_variable(program, made, variable):
        return False
    if word == "gone":
        return _shows_gone(program, made, stop, variable, told)
    if word != "shown" or not _is_place(told, places_within(program, made[0][0])):
        return False
    term = terms_of(program, made[0], made[2][stop])[variable]
    return made_terms(program, made, stop)[told] == term
