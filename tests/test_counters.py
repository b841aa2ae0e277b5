"""Promise [15]: arcs of a procedure, their counts, lots that tell, papers, cheapest counters; of [0.2] (g)."""

import itertools
import unittest

from plainmoment.counters import (accepts_tell, arcs_of, cheapest_counters, counts_at, counts_by, does_tell,
                                  reached_rows, standing_at, tell_paper)
from plainmoment.errors import NoCount, NoMoment, NoProcedure, NoProgram, NoRun, NoValue
from plainmoment.programs import Program
from plainmoment.runs import Run
from tests.samples import (CALLER, COUNTDOWN, DEEP, Odd, Told, changed_run, chance_of, dependence, odd_values, plain,
                           random_program)

# Row 2 goes to itself, row 4 is never reached, and there are two backs.
TANGLED = plain((("if", "x", 3), ("if", "y", 1), ("go", 2), ("back", 1), ("back", 2)))

# An if whose rows are one, a loop, and two ways to the end.
BRANCHED = plain((("if", "x", 1), ("if", "x", 0), ("if", "y", 4), ("back", 1), ("back", 2)))


def reached_anew(program, name):
    reached = {0}
    while True:
        more = reached | {spot[1] for row in reached for spot in program.nexts((name, row))}
        if more == reached:
            return sorted(reached)
        reached = more


def arcs_anew(program, name):
    arcs = {(-1, 0)}
    for row in reached_anew(program, name):
        arcs |= {(row, spot[1]) for spot in program.nexts((name, row))}
        if program.row((name, row))[0] == "back":
            arcs.add((row, -1))
    return sorted(arcs)


def columns_of(program, name):
    """For each arc the dict from the rows to how it counts in their sums."""
    columns = {}
    for one, other in arcs_anew(program, name):
        column = {}
        if other >= 0:
            column[other] = column.get(other, 0) + 1
        if one >= 0:
            column[one] = column.get(one, 0) - 1
        columns[one, other] = column
    return columns


def tells_anew(program, name, lot):
    columns = columns_of(program, name)
    return dependence([columns[arc] for arc in columns if arc not in lot]) is None


def ring_anew(program, name, lot):
    """The ring of the first arc that closes one with arcs ahead of it, by its sums."""
    columns = columns_of(program, name)
    out = [arc for arc in columns if arc not in lot]
    for many in range(1, len(out) + 1):
        numbers = dependence([columns[arc] for arc in out[:many]])
        if numbers is not None:
            return tuple((arc, int(number / numbers[-1])) for arc, number in zip(out, numbers) if number)
    return None


def can_stand(pair, done, out):
    arc, row = pair
    others = [other for other in out if other != arc and row in other]
    return row in arc and arc[0] != arc[1] and row != -1 and all(other in done for other in others)


def order_anew(program, name, lot):
    out = [arc for arc in arcs_anew(program, name) if arc not in lot]
    told = []
    while len(told) < len(out):
        done = [arc for arc, _ in told]
        told.append(min(pair for pair in itertools.product(out, range(-1, 12))
                        if pair[0] not in done and can_stand(pair, done, out)))
    return tuple(told)


def is_order_anew(program, name, lot, pairs):
    out = [arc for arc in arcs_anew(program, name) if arc not in lot]
    done = []
    for pair in pairs:
        if pair[0] not in out or pair[0] in done or not can_stand(pair, done, out):
            return False
        done.append(pair[0])
    return len(done) == len(out)


def counts_anew(run, t, name):
    counts = dict.fromkeys(arcs_anew(run.program(), name), 0)
    if name == run.program().names()[0]:
        counts[-1, 0] += 1
    for step in range(t):
        spot = run.spot_at(step)
        row = run.program().row(spot)
        behind = run.state(step + 1)[1]
        if row[0] == "call":
            if row[2] == name:
                counts[-1, 0] += 1
        elif row[0] == "back":
            if spot[0] == name:
                counts[spot[1], -1] += 1
            if behind and behind[-1][1] == name:
                counts[behind[-1][2] - 1, behind[-1][2]] += 1
        elif spot[0] == name:
            counts[spot[1], behind[-1][2]] += 1
    return counts


def lots_of(arcs):
    return [lot for size in range(len(arcs) + 1) for lot in itertools.combinations(arcs, size)]


def procedures_by_chance(seed, many, most=99):
    """Programs with the names of procedures of at most so many arcs."""
    chance = chance_of(seed)
    done = 0
    while done < many:
        program = random_program(chance)
        for name in program.names():
            if 3 <= len(arcs_anew(program, name)) <= most:
                yield chance, program, name
                done += 1


class Arcs(Told):
    def test_examples(self):
        self.assertEqual(reached_rows(TANGLED, "main"), [0, 1, 2, 3])
        self.assertEqual(arcs_of(TANGLED, "main"), [(-1, 0), (0, 1), (0, 3), (1, 1), (1, 2), (2, 2), (3, -1)])
        self.assertEqual(arcs_of(BRANCHED, "main"),
                         [(-1, 0), (0, 1), (1, 0), (1, 2), (2, 3), (2, 4), (3, -1), (4, -1)])
        self.assertEqual(arcs_of(CALLER, "sum"),
                         [(-1, 0), (0, 1), (0, 2), (1, -1), (2, 3), (3, 4), (4, 5), (5, -1)])
        self.assertEqual(arcs_of(plain([("go", 0)]), "main"), [(-1, 0), (0, 0)])
        self.assertEqual(reached_rows(plain([("go", 0)]), "main"), [0])

    def test_by_chance(self):
        for _, program, name in procedures_by_chance(1501, 150):
            self.assertEqual(reached_rows(program, name), reached_anew(program, name))
            self.assertEqual(arcs_of(program, name), arcs_anew(program, name))

    def test_errors(self):
        for function, behind in ((reached_rows, ()), (arcs_of, ()), (does_tell, (None,)), (tell_paper, (None,)),
                                 (accepts_tell, (None, None)), (cheapest_counters, (7,)), (counts_by, (None, None))):
            self.refuses_all(NoProgram, odd_values(), function, behind=(None, *behind))
            self.refuses_all(NoProcedure, odd_values() + ["mine", "f"], function, TANGLED, behind=behind)


class Counts(Told):
    def test_in_a_loop(self):
        run = Run(COUNTDOWN, [2])
        self.assertEqual(counts_at(run, 0, "main"), {(-1, 0): 1, (0, 1): 0, (1, 2): 0, (2, 3): 0, (2, 4): 0, (3, -1): 0,
                                                     (4, 5): 0, (5, 6): 0, (6, 2): 0})
        self.assertEqual(counts_at(run, 12, "main"), {(-1, 0): 1, (0, 1): 1, (1, 2): 1, (2, 3): 1, (2, 4): 2, (3, -1): 1,
                                                      (4, 5): 2, (5, 6): 2, (6, 2): 2})
        self.assertEqual(list(counts_at(run, 5, "main")), arcs_of(COUNTDOWN, "main"))
        self.assertEqual(standing_at(run, 5, "main"), {0: 0, 1: 0, 2: 0, 3: 0, 4: 0, 5: 0, 6: 1})
        self.assertEqual(sum(standing_at(run, 12, "main").values()), 0)

    def test_a_call_whose_callee_has_not_come_back(self):
        run = Run(DEEP, [2])
        self.assertEqual(counts_at(run, 2, "main"), {(-1, 0): 1, (0, 1): 1, (1, 2): 0, (2, -1): 0})
        self.assertEqual(counts_at(run, 2, "f"), {(-1, 0): 1, (0, 1): 0, (0, 2): 0, (1, -1): 0, (2, 3): 0, (3, 4): 0,
                                                  (4, -1): 0})
        self.assertEqual(standing_at(run, 2, "main"), {0: 0, 1: 1, 2: 0})
        end = run.last() - 1
        self.assertEqual(counts_at(run, end, "f"), {(-1, 0): 3, (0, 1): 1, (0, 2): 2, (1, -1): 1, (2, 3): 2, (3, 4): 2,
                                                    (4, -1): 2})
        middle = counts_at(run, 8, "f")
        self.assertEqual((middle[-1, 0], middle[3, 4], standing_at(run, 8, "f")), (3, 0, {0: 1, 1: 0, 2: 0, 3: 2, 4: 0}))

    def test_a_go_to_itself(self):
        program = plain((("if", "x", 0), ("back", 1)))
        run = Run(program, (), [(0, 0, "x", 1), (3, 0, "x", 0)])
        self.assertEqual(counts_at(run, run.last(), "main"), {(-1, 0): 1, (0, 0): 3, (0, 1): 1, (1, -1): 1})

    def test_a_procedure_that_is_not_called(self):
        program = Program([("main", (), (("back", 1),)), ("f", (), (("back", 1),))])
        self.assertEqual(counts_at(Run(program), 1, "f"), {(-1, 0): 0, (0, -1): 0})
        self.assertEqual(counts_at(Run(program), 1, "main"), {(-1, 0): 1, (0, -1): 1})
        self.assertEqual(counts_at(Run(program), 0, "main"), {(-1, 0): 1, (0, -1): 0})

    def test_the_sums_hold_at_all_moments(self):
        chance = chance_of(1502)
        for _ in range(40):
            run = changed_run(chance, 60)
            for name in run.program().names():
                for t in range(run.last() + 1):
                    counts = counts_at(run, t, name)
                    self.assertEqual(counts, counts_anew(run, t, name))
                    standing = standing_at(run, t, name)
                    self.assertEqual(standing, {row: [frame[1:3] for frame in run.state(t)[1]].count((name, row))
                                                for row in reached_anew(run.program(), name)})
                    self.assertEqual(list(standing), reached_anew(run.program(), name))
                    for row in standing:
                        self.assertEqual(sum(number for arc, number in counts.items() if arc[1] == row),
                                         sum(number for arc, number in counts.items() if arc[0] == row) + standing[row])

    def test_errors(self):
        run = Run(COUNTDOWN, [2])
        for function in (counts_at, standing_at):
            self.refuses_all(NoRun, odd_values(), function, behind=(None, None))
            self.refuses_all(NoMoment, odd_values() + [13], function, run, behind=(None,))
            self.refuses_all(NoProcedure, odd_values() + ["f"], function, run, 0)


class Telling(Told):
    def test_examples(self):
        arcs = arcs_of(BRANCHED, "main")
        self.assertIs(does_tell(BRANCHED, "main", arcs), True)
        self.assertIs(does_tell(BRANCHED, "main", []), False)
        self.assertIs(does_tell(BRANCHED, "main", [(0, 1), (2, 3), (4, -1)]), True)
        self.assertIs(does_tell(BRANCHED, "main", ((2, 3), (4, -1))), False)
        self.assertIs(does_tell(TANGLED, "main", [arc for arc in arcs_of(TANGLED, "main") if arc != (2, 2)]), False)
        self.assertIs(does_tell(COUNTDOWN, "main", [(6, 2), (-1, 0)]), True)
        self.assertIs(does_tell(COUNTDOWN, "main", [(6, 2), (4, 5)]), False)

    def test_orders(self):
        self.assertEqual(tell_paper(COUNTDOWN, "main", [(6, 2), (-1, 0)]), ("order", (
            ((0, 1), 0), ((1, 2), 1), ((5, 6), 6), ((4, 5), 5), ((2, 4), 4), ((2, 3), 2), ((3, -1), 3))))
        self.assertEqual(tell_paper(plain([("back", 1)]), "main", [(0, -1)]), ("order", (((-1, 0), 0),)))
        self.assertEqual(tell_paper(plain([("back", 1)]), "main", [(0, -1), (-1, 0)]), ("order", ()))
        self.assertEqual(tell_paper(CALLER, "main", [(-1, 0)]), ("order", (
            ((0, 1), 0), ((1, 2), 1), ((2, 3), 2), ((3, 4), 3), ((4, -1), 4))))

    def test_rings(self):
        self.assertEqual(tell_paper(BRANCHED, "main", [(1, 2)]), ("ring", (((0, 1), 1), ((1, 0), 1))))
        self.assertEqual(tell_paper(BRANCHED, "main", [(0, 1)]), ("ring", (
            ((-1, 0), 1), ((1, 0), -1), ((1, 2), 1), ((2, 3), 1), ((3, -1), 1))))
        self.assertEqual(tell_paper(BRANCHED, "main", [(0, 1), (-1, 0)]), ("ring", (
            ((2, 3), -1), ((2, 4), 1), ((3, -1), -1), ((4, -1), 1))))
        self.assertEqual(tell_paper(TANGLED, "main", [(1, 1)]), ("ring", (((2, 2), 1),)))
        self.assertEqual(tell_paper(TANGLED, "main", []), ("ring", (((1, 1), 1),)))
        self.assertEqual(tell_paper(COUNTDOWN, "main", [(2, 4)]), ("ring", (
            ((-1, 0), 1), ((0, 1), 1), ((1, 2), 1), ((2, 3), 1), ((3, -1), 1))))

    def test_all_lots_of_small_procedures(self):
        kinds = []
        for chance, program, name in procedures_by_chance(1503, 60, 9):
            lots = lots_of(arcs_anew(program, name))
            for lot in chance.sample(lots, min(40, len(lots))):
                told = does_tell(program, name, lot)
                self.assertIs(told, tells_anew(program, name, lot))
                paper = tell_paper(program, name, chance.sample(lot, len(lot)))
                kinds.append(paper[0])
                if told:
                    self.assertEqual(paper, ("order", order_anew(program, name, lot)))
                else:
                    self.assertEqual(paper, ("ring", ring_anew(program, name, lot)))
                self.assertIs(accepts_tell(program, name, lot, paper), True)
                self.assertIs(accepts_tell(program, name, lot, ("ring" if told else "order", paper[1])), False)
        self.assertTrue(kinds.count("order") > 200 and kinds.count("ring") > 200)

    def test_great_ones(self):
        for chance, program, name in procedures_by_chance(1504, 100):
            arcs = arcs_anew(program, name)
            for many in (0, 1, 2, 4, len(arcs) // 2):
                lot = chance.sample(arcs, min(many, len(arcs)))
                paper = tell_paper(program, name, lot)
                ring = ring_anew(program, name, lot)
                self.assertEqual(paper, ("order", order_anew(program, name, lot)) if ring is None else ("ring", ring))

    def test_all_orders_of_a_small_procedure(self):
        arcs = arcs_of(BRANCHED, "main")
        lot = [(0, 1), (2, 3), (-1, 0), (4, -1)]
        out = [arc for arc in arcs if arc not in lot]
        right = 0
        for order in itertools.permutations(out):
            for rows in itertools.product(*[sorted({*arc, 2}) for arc in order]):
                pairs = tuple(zip(order, rows))
                told = accepts_tell(BRANCHED, "main", lot, ("order", pairs))
                self.assertIs(told, is_order_anew(BRANCHED, "main", lot, pairs))
                right += told
        self.assertGreater(right, 10)

    def test_all_rings_of_a_small_procedure(self):
        lot = [(0, 1), (-1, 0)]
        out = [arc for arc in arcs_of(BRANCHED, "main") if arc not in lot]
        right = []
        for numbers in itertools.product((-2, -1, 0, 1, 2), repeat=len(out)):
            pairs = tuple((arc, number) for arc, number in zip(out, numbers) if number)
            balanced = all(sum(n for arc, n in pairs if arc[1] == row) == sum(n for arc, n in pairs if arc[0] == row)
                           for row in range(5))
            told = accepts_tell(BRANCHED, "main", lot, ("ring", pairs))
            self.assertIs(told, balanced and pairs != ())
            right += [pairs] * told
        self.assertEqual(len(right), 4)
        self.assertIs(accepts_tell(BRANCHED, "main", lot, ("ring", tuple(
            (arc, number * 10 ** 60) for arc, number in right[0]))), True)

    def test_wrong_orders(self):
        lot = [(6, 2), (-1, 0)]
        word, pairs = tell_paper(COUNTDOWN, "main", lot)
        self.assertEqual(word, "order")
        self.assertIs(accepts_tell(COUNTDOWN, "main", lot, ("order", pairs)), True)
        self.likes_none(odd_values() + [
            ["order", pairs], ("order", list(pairs)), ("order", pairs[:-1]), ("order", pairs[1:]), ("order", ()),
            ("order", pairs + pairs[-1:]), ("order", pairs[::-1]), ("Order", pairs), (word, pairs, 1), (Odd(), pairs),
            ("order", (Odd(),) * 7), ("order", pairs[:-1] + ((pairs[-1][0], Odd()),)),
            ("order", pairs[:-1] + ((Odd(), pairs[-1][1]),)), ("order", pairs[:-1] + ([*pairs[-1]],)),
            ("order", pairs[:-1] + (([*pairs[-1][0]], pairs[-1][1]),)), ("order", (((0, 1), False),) + pairs[1:]),
            ("order", (((0, True), 0),) + pairs[1:]), ("order", (((-1, 0), 0),) + pairs), ("order", (((6, 2), 6),) + pairs),
            ("order", (((0, 1), 0.0),) + pairs[1:]), ("order", (((0, 1), None),) + pairs[1:])],
            accepts_tell, COUNTDOWN, "main", lot)

    def test_the_outside_is_no_row_of_an_order(self):
        program = plain([("back", 1)])
        self.assertIs(accepts_tell(program, "main", [(0, -1)], ("order", (((-1, 0), 0),))), True)
        self.assertIs(accepts_tell(program, "main", [(0, -1)], ("order", (((-1, 0), -1),))), False)

    def test_a_go_to_itself_stands_in_no_order(self):
        program = plain((("if", "x", 0), ("back", 1)))
        lot = [(-1, 0), (0, 1), (1, -1)]
        self.assertIs(accepts_tell(program, "main", lot, ("order", (((0, 0), 0),))), False)
        self.assertIs(accepts_tell(program, "main", lot, ("ring", (((0, 0), -7),))), True)

    def test_wrong_rings(self):
        lot = [(0, 1)]
        right = (((2, 3), -1), ((2, 4), 1), ((3, -1), -1), ((4, -1), 1))
        self.assertIs(accepts_tell(BRANCHED, "main", lot, ("ring", right)), True)
        self.likes_none([
            ("ring", ()), ("ring", right[::-1]), ("ring", right + right), ("ring", right[:3]), ["ring", right],
            ("ring", list(right)), ("ring", right, 1), ("Ring", right), ("ring", right[:1] + right),
            ("ring", (((0, 1), 1), ((1, 0), 1))), ("ring", (((-1, 0), 0),) + right), ("ring", right + (((5, -1), 1),)),
            ("ring", (((2, 3), -1), ((2, 4), True), ((3, -1), -1), ((4, -1), True))), ("ring", (Odd(), Odd())),
            ("ring", (((2, 3), -1.0), ((2, 4), 1.0), ((3, -1), -1.0), ((4, -1), 1.0))), ("ring", ([(2, 3), -1],)),
            ("ring", ((Odd(), 1),)), ("ring", (((2, 3), Odd()),)), ("ring", (((2, 3), None),)), ("ring", None),
            ("ring", (((2, 3), 0), ((2, 4), 0)))], accepts_tell, BRANCHED, "main", lot)

    def test_no_count(self):
        for function, behind in ((does_tell, ()), (tell_paper, ()), (accepts_tell, (None,))):
            for arcs in (None, 0, "", {}, {(0, 1): 1}, {(0, 1)}, range(0), True):
                self.assertIsNone(self.told(NoCount, function, BRANCHED, "main", arcs, *behind))
            for arc in odd_values() + [(0, 2), (0, 1, 1), [0, 1], (False, 1), (0, True), (1.0, 0), (3, 4), (0, 1),
                                       (Odd(), 1), (0, Odd())]:
                self.assertEqual(self.told(NoCount, function, BRANCHED, "main", [(-1, 0), (0, 1), arc, None], *behind), 2)


class Cheapest(Told):
    def test_examples(self):
        self.assertEqual(cheapest_counters(COUNTDOWN, "main"), ((3, -1), (6, 2)))
        self.assertEqual(cheapest_counters(COUNTDOWN, "main", None), ((3, -1), (6, 2)))
        self.assertEqual(cheapest_counters(COUNTDOWN, "main", {}), ((3, -1), (6, 2)))
        self.assertEqual(cheapest_counters(COUNTDOWN, "main", {(3, -1): 5, (6, 2): 9}), ((2, 3), (5, 6)))
        self.assertEqual(cheapest_counters(COUNTDOWN, "main", {(3, -1): 1, (6, 2): 1}), ((3, -1), (6, 2)))
        self.assertEqual(cheapest_counters(TANGLED, "main", {(1, 1): 99, (2, 2): 99}), ((1, 1), (2, 2), (3, -1)))
        self.assertEqual(cheapest_counters(plain([("back", 1)]), "main", {(-1, 0): 2}), ((0, -1),))
        self.assertEqual(cheapest_counters(plain([("back", 1)]), "main", prices={(0, -1): 2}), ((-1, 0),))

    def test_without_prices_it_is_the_fewest(self):
        for _, program, name in procedures_by_chance(1505, 100):
            told = cheapest_counters(program, name)
            self.assertEqual(len(told), len(arcs_anew(program, name)) - len(reached_anew(program, name)))
            self.assertTrue(tells_anew(program, name, told))

    def test_all_lots_of_small_procedures(self):
        for chance, program, name in procedures_by_chance(1506, 60, 8):
            arcs = arcs_anew(program, name)
            for most in (1, 3, 99):
                prices = {arc: chance.randrange(1, most + 1) for arc in arcs if chance.random() < 0.8}
                told = cheapest_counters(program, name, prices if most > 1 else None)
                prices = prices if most > 1 else {}
                cost = min(sum(prices.get(arc, 1) for arc in lot) for lot in lots_of(arcs)
                           if tells_anew(program, name, lot))
                self.assertEqual(sum(prices.get(arc, 1) for arc in told), cost)
                columns = columns_of(program, name)
                left = []
                for arc in sorted(arcs, key=lambda one: (-prices.get(one, 1), one)):
                    if dependence([columns[one] for one in left + [arc]]) is None:
                        left.append(arc)
                self.assertEqual(told, tuple(arc for arc in arcs if arc not in left))

    def test_no_prices(self):
        values = [value for value in odd_values() if value is not None and repr(value) != "{}"]
        for prices in values + [{(0, 1): 0}, {(0, 1): 100}, {(0, 1): True}, {(0, 1): None}, {(0, 1): 1.0}, {(0, 2): 1},
                                {(0, 1): 1, "x": 1}, {(False, 1): 1}, {(0, True): 1}, [((0, 1), 1)], {0: 1},
                                {(0, 1): Odd()}, {None: 1}]:
            self.assertIs(self.told(NoValue, cheapest_counters, BRANCHED, "main", prices), prices)
        self.assertEqual(len(cheapest_counters(BRANCHED, "main", {(0, 1): 1, (1, 0): 99})), 3)


class Reckoned(Told):
    def test_from_what_was_counted(self):
        run = Run(COUNTDOWN, [5])
        for t in range(run.last() + 1):
            counts = counts_at(run, t, "main")
            told = counts_by(COUNTDOWN, "main", standing_at(run, t, "main"), {(6, 2): counts[6, 2], (3, -1): counts[3, -1]})
            self.assertEqual(told, counts)
            self.assertEqual(list(told), list(counts))

    def test_by_chance(self):
        chance = chance_of(1507)
        for _ in range(40):
            run = changed_run(chance, 60)
            for name in run.program().names():
                arcs = arcs_anew(run.program(), name)
                prices = {arc: chance.randrange(1, 100) for arc in arcs}
                told = cheapest_counters(run.program(), name, prices)
                more = [arc for arc in arcs if arc not in told][:chance.randrange(3)]
                for t in {0, run.last(), chance.randrange(run.last() + 1)}:
                    counts = counts_at(run, t, name)
                    counted = {arc: counts[arc] for arc in [*more, *told]}
                    self.assertEqual(counts_by(run.program(), name, standing_at(run, t, name), counted), counts)
                    self.assertEqual(len(counted), len(more) + len(told))

    def test_numbers_below_nought(self):
        program = plain([("back", 1)])
        self.assertEqual(counts_by(program, "main", {0: 5}, {(-1, 0): 2}), {(-1, 0): 2, (0, -1): -3})
        self.assertEqual(counts_by(program, "main", {0: 5}, {(0, -1): 0}), {(-1, 0): 5, (0, -1): 0})

    def test_a_go_to_itself(self):
        program = plain((("if", "x", 0), ("back", 1)))
        counted = {(0, 0): 8, (-1, 0): 1}
        self.assertEqual(counts_by(program, "main", {0: 0, 1: 0}, counted), {(-1, 0): 1, (0, 0): 8, (0, 1): 1, (1, -1): 1})
        self.assertIs(self.told(NoCount, counts_by, program, "main", {0: 0, 1: 0}, {(-1, 0): 1}).__class__, dict)

    def test_nothing_fits(self):
        program = plain([("back", 1)])
        counted = {(-1, 0): 2, (0, -1): 2}
        self.assertEqual(counts_by(program, "main", {0: 0}, counted), counted)
        self.assertIs(self.told(NoCount, counts_by, program, "main", {0: 1}, counted), counted)
        counted = {arc: 0 for arc in arcs_of(COUNTDOWN, "main")}
        counted[6, 2] = 1
        standing = {row: 0 for row in range(7)}
        self.assertIs(self.told(NoCount, counts_by, COUNTDOWN, "main", standing, counted), counted)
        del counted[5, 6]
        self.assertIs(self.told(NoCount, counts_by, COUNTDOWN, "main", standing, counted), counted)

    def test_arcs_that_do_not_tell(self):
        standing = {row: 0 for row in range(7)}
        for counted in ({}, {(6, 2): 0}, {(6, 2): 0, (4, 5): 0}):
            self.assertIs(self.told(NoCount, counts_by, COUNTDOWN, "main", standing, counted), counted)

    def test_no_count(self):
        program = plain((("if", "x", 0), ("back", 1)))
        right = {(0, 0): 8, (-1, 0): 1}
        for standing in odd_values() + [{0: 0}, {0: 0, 1: 0, 2: 0}, {0: 0, 2: 0}, {0: 0, True: 0}, {False: 0, 1: 0},
                                        {0: 0, 1: -1}, {0: 0, 1: True}, {0: 0, 1: None}, {0: Odd(), 1: 0}, [0, 0]]:
            self.assertIs(self.told(NoCount, counts_by, program, "main", standing, None), standing)
        for counted in odd_values() + [{(0, 0): 8, (-1, 0): -1}, {(0, 0): 8, (-1, 0): True}, {(0, 0): 8, (-1, 0): None},
                                       {(0, 0): 8, (-1, 0): 1, (0, 2): 1}, {**right, "x": 1}, {(0, False): 8, (-1, 0): 1},
                                       {(0, 0): Odd(), (-1, 0): 1}, list(right.items())]:
            self.assertIs(self.told(NoCount, counts_by, program, "main", {0: 0, 1: 0}, counted), counted)
        self.assertEqual(counts_by(program, "main", {0: 0, 1: 0}, {(0, 0): 10 ** 50, (-1, 0): 1})[0, 0], 10 ** 50)


if __name__ == "__main__":
    unittest.main()
