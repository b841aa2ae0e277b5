"""Counters: on which arcs of a procedure it is enough to count, and what they tell of the others."""

from plainmoment.checks import is_number, is_tuple_of, is_within
from plainmoment.errors import NoCount, NoValue
from plainmoment.programs import need_procedure
from plainmoment.runs import need_moment, need_run

OUTSIDE = -1
MOST_PRICE = 99


def reached_within(program, procedure):
    """The ascending list of the reached rows; nothing is asked of what is handed in."""
    reached = {0: True}
    waiting = [0]
    while len(waiting) > 0:
        here = waiting.pop()
        for _, after in program.nexts((procedure, here)):
            if after not in reached:
                reached[after] = True
                waiting.append(after)
    return sorted(reached)


def arcs_within(program, procedure):
    """The ascending list of the arcs; nothing is asked of what is handed in."""
    arcs = [(OUTSIDE, 0)]
    for index in reached_within(program, procedure):
        arcs.extend([(index, after) for _, after in program.nexts((procedure, index))])
        if program.row((procedure, index))[0] == "back":
            arcs.append((index, OUTSIDE))
    return sorted(arcs)


def reached_rows(program, procedure):
    """The ascending list of the rows of a procedure to which a way of nexts leads from row 0."""
    need_procedure(program, procedure)
    return reached_within(program, procedure)


def arcs_of(program, procedure):
    """The ascending list of the arcs of a procedure; the outside is the number -1."""
    need_procedure(program, procedure)
    return arcs_within(program, procedure)


def _need_at(run, t, procedure):
    need_run(run)
    need_moment(run, t)
    need_procedure(run.program(), procedure)


def _gone_along(frames, others):
    """The pairs of procedures and arcs along which frames go in a step from some frames to others."""
    if len(others) > len(frames):
        return [(others[-1][1], (OUTSIDE, 0))]
    _, name, index, _ = frames[-1]
    if len(others) == len(frames):
        return [(name, (index, others[-1][2]))]
    gone = [(name, (index, OUTSIDE))]
    if len(others) > 0:
        gone.append((others[-1][1], (frames[-2][2], others[-1][2])))
    return gone


def counts_at(run, t, procedure):
    """The dict from the arcs of a procedure, ascending, to how often frames went along them below a moment."""
    _need_at(run, t, procedure)
    counts = {arc: 0 for arc in arcs_within(run.program(), procedure)}
    gone = [(run.program().names()[0], (OUTSIDE, 0))]
    for step in range(t):
        gone.extend(_gone_along(run.state(step)[1], run.state(step + 1)[1]))
    for name, arc in gone:
        if name == procedure:
            counts[arc] = counts[arc] + 1
    return counts


def standing_at(run, t, procedure):
    """The dict from the reached rows of a procedure, ascending, to how many of its frames stand there."""
    _need_at(run, t, procedure)
    standing = {index: 0 for index in reached_within(run.program(), procedure)}
    for _, name, index, _ in run.state(t)[1]:
        if name == procedure:
            standing[index] = standing[index] + 1
    return standing


def _is_arc(arcs, value):
    return is_tuple_of(value, 2) and is_number(value[0]) and is_number(value[1]) and value in arcs


def _need_arcs(program, procedure, arcs):
    need_procedure(program, procedure)
    if not isinstance(arcs, (list, tuple)):
        raise NoCount(None)
    known = arcs_within(program, procedure)
    ahead = []
    for index, arc in enumerate(arcs):
        if not _is_arc(known, arc) or arc in ahead:
            raise NoCount(index)
        ahead.append(arc)


def _left_out(program, procedure, arcs):
    return [arc for arc in arcs_within(program, procedure) if arc not in arcs]


def _joined_to(arcs, end):
    """The pairs of the arcs that have an end and their other ends."""
    return [(arc, arc[1] if arc[0] == end else arc[0]) for arc in arcs if end in arc]


def _way_between(arcs, begin, end):
    """The list of the pairs of arcs and the ends to which they lead, on a way along arcs; None if there is none."""
    ways = {begin: []}
    waiting = [begin]
    while len(waiting) > 0 and end not in ways:
        here = waiting.pop()
        for arc, there in _joined_to(arcs, here):
            if there not in ways:
                ways[there] = ways[here] + [(arc, there)]
                waiting.append(there)
    return ways.get(end)


def _first_ring(arcs):
    """The first arc that closes a ring with arcs ahead of it, and the way back from its end; None without one."""
    for index, arc in enumerate(arcs):
        way = _way_between(arcs[:index], arc[1], arc[0])
        if way is not None:
            return (arc, way)
    return None


def does_tell(program, procedure, arcs):
    """Whether a lot of arcs tells a procedure: the others have no ring."""
    _need_arcs(program, procedure, arcs)
    return _first_ring(_left_out(program, procedure, arcs)) is None


def _ring_paper(arc, way):
    numbers = {arc: 1}
    for there, end in way:
        numbers[there] = 1 if there[1] == end else -1
    return ("ring", tuple(sorted(numbers.items())))


def _can_stand(left, arc, row):
    """Whether all arcs of a row but this one are of the lot or stand ahead; left are those that do not."""
    return row != OUTSIDE and arc[0] != arc[1] and not any([row in other and other != arc for other in left])


def _next_pair(left):
    for arc in left:
        for row in sorted(arc):
            if _can_stand(left, arc, row):
                return (arc, row)
    return None


def _order_of(arcs):
    """The order in which ascending arcs without a ring can stand, again and again the first pair."""
    left = list(arcs)
    order = []
    while len(left) > 0:
        pair = _next_pair(left)
        order.append(pair)
        left = [arc for arc in left if arc != pair[0]]
    return order


def tell_paper(program, procedure, arcs):
    """The paper of an order if a lot of arcs tells a procedure, otherwise that of a ring."""
    _need_arcs(program, procedure, arcs)
    out = _left_out(program, procedure, arcs)
    ring = _first_ring(out)
    if ring is not None:
        return _ring_paper(ring[0], ring[1])
    return ("order", tuple(_order_of(out)))


def _is_order(out, pairs):
    left = list(out)
    for pair in pairs:
        if not is_tuple_of(pair, 2) or not _is_arc(left, pair[0]):
            return False
        arc, row = pair
        if not is_number(row) or row not in arc or not _can_stand(left, arc, row):
            return False
        left = [other for other in left if other != arc]
    return len(left) == 0


def surplus_of(row, numbers):
    """How much more the arcs to a row have than those from it, by a dict from arcs to numbers."""
    return (sum([number for arc, number in numbers.items() if arc[1] == row])
            - sum([number for arc, number in numbers.items() if arc[0] == row]))


def _is_ring(out, reached, pairs):
    numbers = {}
    ahead = None
    for pair in pairs:
        if not is_tuple_of(pair, 2) or not _is_arc(out, pair[0]) or not is_number(pair[1]) or pair[1] == 0:
            return False
        if ahead is not None and pair[0] <= ahead:
            return False
        numbers[pair[0]] = pair[1]
        ahead = pair[0]
    return ahead is not None and all([surplus_of(row, numbers) == 0 for row in reached])


def accepts_tell(program, procedure, arcs, value):
    """Whether any value is a right paper, of an order or of a ring, about a lot of arcs."""
    _need_arcs(program, procedure, arcs)
    if not is_tuple_of(value, 2) or not isinstance(value[0], str) or not isinstance(value[1], tuple):
        return False
    out = _left_out(program, procedure, arcs)
    if value[0] == "order":
        return _is_order(out, value[1])
    return value[0] == "ring" and _is_ring(out, reached_within(program, procedure), value[1])


def _need_prices(known, prices):
    if prices is None:
        return
    if not isinstance(prices, dict):
        raise NoValue(prices)
    if not all([_is_arc(known, arc) and is_within(price, 1, MOST_PRICE) for arc, price in prices.items()]):
        raise NoValue(prices)


def cheapest_counters(program, procedure, prices=None):
    """The tuple of the arcs of the cheapest lot that tells a procedure."""
    need_procedure(program, procedure)
    known = arcs_within(program, procedure)
    _need_prices(known, prices)
    given = {} if prices is None else prices
    out = []
    for _, arc in sorted([(-given.get(arc, 1), arc) for arc in known]):
        if _way_between(out, arc[0], arc[1]) is None:
            out.append(arc)
    return tuple([arc for arc in known if arc not in out])


def _is_count(value):
    return is_number(value) and value >= 0


def _is_standing(reached, value):
    if not isinstance(value, dict) or len(value) != len(reached):
        return False
    return all([is_number(row) and row in reached and _is_count(number) for row, number in value.items()])


def _are_counted(known, value):
    if not isinstance(value, dict):
        return False
    return all([_is_arc(known, arc) and _is_count(number) for arc, number in value.items()])


def _reckoned_by(order, standing, counted):
    """The counts of all arcs, those in the order reckoned by the sums of their rows."""
    counts = dict(counted)
    for arc, row in order:
        lacking = standing[row] - surplus_of(row, counts)
        counts[arc] = lacking if arc[1] == row else -lacking
    return counts


def counts_by(program, procedure, standing, counted):
    """The dict from all arcs, ascending, to the numbers that fit what stands and what was counted."""
    need_procedure(program, procedure)
    reached = reached_within(program, procedure)
    if not _is_standing(reached, standing):
        raise NoCount(standing)
    known = arcs_within(program, procedure)
    if not _are_counted(known, counted):
        raise NoCount(counted)
    out = [arc for arc in known if arc not in counted]
    if _first_ring(out) is not None:
        raise NoCount(counted)
    counts = _reckoned_by(_order_of(out), standing, counted)
    if not all([surplus_of(row, counts) == standing[row] for row in reached]):
        raise NoCount(counted)
    return {arc: counts[arc] for arc in known}
