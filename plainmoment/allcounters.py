"""Counters of all procedures of a program together, by the sums that calls add."""

from math import gcd

from plainmoment.checks import is_number, is_tuple_of
from plainmoment.counters import OUTSIDE, arcs_within, reached_within
from plainmoment.errors import NoCount
from plainmoment.programs import need_program


def _names_called_in(program, name):
    rows = [program.row((name, index)) for index in reached_within(program, name)]
    return [row[2] for row in rows if row[0] == "call"]


def called_names(program):
    """The list of the names of the called procedures, in the order of the program."""
    need_program(program)
    waiting = [program.names()[0]]
    called = {}
    while len(waiting) > 0:
        name = waiting.pop()
        if name not in called:
            called[name] = True
            waiting.extend(_names_called_in(program, name))
    return [name for name in program.names() if name in called]


def all_arcs(program):
    """The list of the arcs of all called procedures, procedure by procedure, then ascending."""
    return [(name, begin, end) for name in called_names(program) for begin, end in arcs_within(program, name)]


def _is_arc(known, value):
    return (is_tuple_of(value, 3) and isinstance(value[0], str) and is_number(value[1]) and is_number(value[2])
            and value in known)


def _need_arcs(program, arcs):
    need_program(program)
    if not isinstance(arcs, (list, tuple)):
        raise NoCount(None)
    known = all_arcs(program)
    ahead = []
    for index, arc in enumerate(arcs):
        if not _is_arc(known, arc) or arc in ahead:
            raise NoCount(index)
        ahead.append(arc)


def _shares(program, arc):
    """The dict from the sums in which an arc counts to how it counts there; a sum is a row, or (name, -1)."""
    name, begin, end = arc
    counted = [((name, end), 1)] if end != OUTSIDE else []
    counted.append(((name, begin), -1 if begin != OUTSIDE else 1))
    if begin != OUTSIDE and program.row((name, begin))[0] == "call":
        counted.append(((program.row((name, begin))[2], OUTSIDE), -1))
    shares = {}
    for place, number in counted:
        shares[place] = shares.get(place, 0) + number
    return {place: number for place, number in shares.items() if number != 0}


def _sum_of(many, numbers, other_many, others):
    """The dict of so many times the numbers of one dict and so many times those of another one, without noughts."""
    summed = {}
    for key in list(numbers) + [other for other in others if other not in numbers]:
        number = many * numbers.get(key, 0) + other_many * others.get(key, 0)
        if number != 0:
            summed[key] = number
    return summed


def _divisor_of(numbers):
    divisor = 0
    for number in numbers.values():
        divisor = gcd(divisor, number)
    return divisor


def _cleared(taken, shares, numbers):
    """The shares and numbers of arcs together from which those taken ahead are cleared, sum by sum."""
    for place, others, other_numbers in taken:
        if place in shares:
            many, other_many = others[place], -shares[place]
            shares = _sum_of(many, shares, other_many, others)
            numbers = _sum_of(many, numbers, other_many, other_numbers)
            divisor = _divisor_of(numbers)
            shares = {key: number // divisor for key, number in shares.items()}
            numbers = {key: number // divisor for key, number in numbers.items()}
    return shares, numbers


def _take(program, taken, arc):
    """Takes an arc if those taken have no paper with it, and tells None; otherwise tells the numbers of the paper."""
    shares, numbers = _cleared(taken, _shares(program, arc), {arc: 1})
    if len(shares) == 0:
        return numbers
    taken.append((sorted(shares)[0], shares, numbers))
    return None


def _free_numbers(program, out):
    """The numbers of the told paper of the arcs out of a lot, in their order; None if they have none."""
    taken = []
    for arc in out:
        numbers = _take(program, taken, arc)
        if numbers is not None:
            sign = 1 if numbers[arc] > 0 else -1
            return [(other, sign * numbers[other]) for other in out if other in numbers]
    return None


def _left_out(program, arcs):
    return [arc for arc in all_arcs(program) if arc not in arcs]


def do_tell_all(program, arcs):
    """Whether a lot of arcs of called procedures tells all others."""
    _need_arcs(program, arcs)
    return _free_numbers(program, _left_out(program, arcs)) is None


def free_paper(program, arcs):
    """The told paper against a lot of arcs, None if they tell all."""
    _need_arcs(program, arcs)
    numbers = _free_numbers(program, _left_out(program, arcs))
    return None if numbers is None else ("free", tuple(numbers))


def _are_free(program, out, pairs):
    order = []
    shares = {}
    for pair in pairs:
        if not is_tuple_of(pair, 2) or not _is_arc(out, pair[0]) or not is_number(pair[1]) or pair[1] == 0:
            return False
        order.append(out.index(pair[0]))
        shares = _sum_of(1, shares, pair[1], _shares(program, pair[0]))
    return len(order) > 0 and order == sorted(set(order)) and len(shares) == 0


def accepts_free(program, arcs, value):
    """Whether any value is a right paper against a lot of arcs."""
    _need_arcs(program, arcs)
    if not is_tuple_of(value, 2) or not isinstance(value[0], str) or not isinstance(value[1], tuple):
        return False
    return value[0] == "free" and _are_free(program, _left_out(program, arcs), value[1])


def fewest_for_all(program):
    """The tuple of the arcs of a lot that tells all, of as few as can be."""
    taken = []
    counted = []
    for arc in all_arcs(program):
        if _take(program, taken, arc) is not None:
            counted.append(arc)
    return tuple(counted)
