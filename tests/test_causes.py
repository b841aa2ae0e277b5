"""Promise [9]: reads, writes, causes, redoing, runs that agree; and of [0.2] (d)."""

import itertools
import unittest

from plainmoment.causes import (agree_about, askings_of, causes_of, causes_paper, effects_of, is_closed_lot, is_enough,
                                last_write, reads_of, redone, shows_causes, writes_of)
from plainmoment.errors import NoCell, NoMoment, NoRun, TooMany
from plainmoment.programs import Program
from plainmoment.runs import Run
from tests.samples import (CALLER, COUNTDOWN, Odd, Told, changed_run, chance_of, odd_values, plain, random_changes,
                           random_inputs, random_run, reckon)

# Each kind of row is done once: a get, a set, a copy, an if, a call of two parameters, outs, a go and backs.
KINDS = Program([
    ("main", (), (
        ("get", "x"),
        ("set", "y", "add", "x", "x"),
        ("copy", "z", "y"),
        ("if", "z", 5),
        ("out", 4),
        ("call", "x", "f", ("z", "x")),
        ("out", "x"),
        ("go", 8),
        ("back", "x"),
    )),
    ("f", ("q", "p"), (
        ("set", "w", "sub", "q", "p"),
        ("back", "w"),
    )),
])

# Two inputs are asked of which one is lost; a third one is asked beyond the last input.
ASKING = plain((
    ("get", "a"),
    ("get", "b"),
    ("copy", "b", 4),
    ("get", "c"),
    ("set", "d", "add", "a", "c"),
    ("if", "b", 6),
    ("copy", "e", "d"),
    ("back", "e"),
))

TWO = plain((("get", "x"), ("get", "y"), ("set", "z", "add", "x", 1), ("if", "y", 4), ("out", "z"), ("back", "z")))


def parts_of(row):
    if row[0] == "set":
        return row[3:]
    if row[0] == "copy":
        return row[2:]
    if row[0] == "call":
        return row[3]
    return row[1:2] if row[0] in ("if", "back", "out") else ()


def reads_anew(run, step):
    frame = run.state(step)[1][-1]
    parts = parts_of(run.program().procedure(frame[1])[2][frame[2]])
    return sorted({(frame[0], part) for part in parts if isinstance(part, str)})


def writes_anew(run, step):
    """The cells that a step writes, in the order of the operands that go into them."""
    frames = run.state(step)[1]
    row = run.program().procedure(frames[-1][1])[2][frames[-1][2]]
    if row[0] in ("set", "copy", "get"):
        return [(frames[-1][0], row[1])]
    if row[0] == "call":
        return [(step + 1, name) for name in run.program().procedure(row[2])[1]]
    if row[0] == "back" and len(frames) > 1:
        caller = run.program().procedure(frames[-2][1])[2][frames[-2][2]]
        return [(frames[-2][0], caller[1])]
    return []


def traces(run):
    """For each moment the dict from cells to the sets of the steps that their values come from."""
    held = {}
    told = [dict(held)]
    for step in range(run.last()):
        from_all = set().union({step}, *[held.get(cell, set()) for cell in reads_anew(run, step)])
        for cell in writes_anew(run, step):
            held[cell] = from_all
        told.append(dict(held))
    return told


def redone_anew(run, steps, cell):
    held = {}
    for step in steps:
        frame = run.state(step)[1][-1]
        row = run.program().procedure(frame[1])[2][frame[2]]
        parts = [part if isinstance(part, int) else held.get((frame[0], part), 0) for part in parts_of(row)]
        if row[0] == "set":
            parts = [reckon(row[2], *parts)]
        if row[0] == "get":
            parts = [dict(enumerate(run.inputs())).get(run.state(step)[2], 0)]
        held.update(zip(writes_anew(run, step), parts))
    return held.get(cell, 0)


def cells_at(run, t):
    return [(frame[0], name) for frame in run.state(t)[1] for name in run.program().variables_of(frame[1])]


def some_cells(chance, run, many):
    found = []
    for _ in range(many):
        t = chance.randrange(run.last() + 1)
        if cells_at(run, t):
            found.append((t, chance.choice(cells_at(run, t))))
    return found


class ReadsAndWrites(Told):
    def test_each_kind_of_row(self):
        run = Run(KINDS, [3])
        told = [(reads_of(run, step), writes_of(run, step)) for step in range(run.last())]
        self.assertEqual(told, [
            ((), ((0, "x"),)),
            (((0, "x"),), ((0, "y"),)),
            (((0, "y"),), ((0, "z"),)),
            (((0, "z"),), ()),
            (((0, "x"), (0, "z")), ((5, "p"), (5, "q"))),
            (((5, "p"), (5, "q")), ((5, "w"),)),
            (((5, "w"),), ((0, "x"),)),
            (((0, "x"),), ()),
            ((), ()),
            (((0, "x"),), ()),
        ])

    def test_numbers_are_not_read(self):
        run = Run(plain((("copy", "x", 1), ("set", "x", "add", 1, 2), ("out", 3), ("back", 4))))
        self.assertEqual([reads_of(run, step) for step in range(4)], [(), (), (), ()])

    def test_by_chance(self):
        chance = chance_of(901)
        for _ in range(40):
            run = changed_run(chance)
            for step in range(run.last()):
                self.assertEqual(reads_of(run, step), tuple(reads_anew(run, step)))
                self.assertEqual(writes_of(run, step), tuple(sorted(writes_anew(run, step))))

    def test_errors(self):
        run = Run(KINDS, [3])
        for function in (reads_of, writes_of, effects_of):
            self.refuses_all(NoRun, odd_values(), function, behind=(None,))
            self.refuses_all(NoMoment, odd_values() + [10, 11], function, run)


class Writes(Told):
    def test_last_writes(self):
        run = Run(COUNTDOWN, [2])
        self.assertIsNone(last_write(run, 0, (0, "n")))
        self.assertEqual(last_write(run, 1, (0, "n")), 0)
        self.assertIsNone(last_write(run, 1, (0, "s")))
        self.assertEqual(last_write(run, 3, (0, "s")), 1)
        self.assertEqual(last_write(run, 4, (0, "s")), 3)
        self.assertEqual(last_write(run, 4, (0, "n")), 0)
        self.assertEqual(last_write(run, 5, (0, "n")), 4)

    def test_changes_are_no_writes(self):
        run = Run(COUNTDOWN, [2], [(0, 0, "s", 5), (4, 0, "n", 1)])
        self.assertIsNone(last_write(run, 0, (0, "s")))
        self.assertIsNone(last_write(run, 1, (0, "s")))
        self.assertEqual(last_write(run, 4, (0, "n")), 0)

    def test_of_parameters_and_of_the_back(self):
        run = Run(KINDS, [3])
        self.assertEqual(last_write(run, 5, (5, "p")), 4)
        self.assertIsNone(last_write(run, 5, (5, "w")))
        self.assertEqual(last_write(run, 6, (0, "x")), 0)
        self.assertEqual(last_write(run, 7, (0, "x")), 6)


class Causes(Told):
    def test_ways_through_a_call(self):
        run = Run(KINDS, [3])
        self.assertEqual(causes_of(run, 0, (0, "x")), ())
        self.assertEqual(causes_of(run, 1, (0, "x")), (0,))
        self.assertEqual(causes_of(run, 3, (0, "z")), (0, 1, 2))
        self.assertEqual(causes_of(run, 5, (5, "p")), (0, 1, 2, 4))
        self.assertEqual(causes_of(run, 9, (0, "x")), (0, 1, 2, 4, 5, 6))
        self.assertEqual(causes_of(run, 9, (0, "z")), (0, 1, 2))

    def test_an_if_is_no_cause(self):
        run = Run(COUNTDOWN, [1])
        self.assertEqual(causes_of(run, 7, (0, "s")), (0, 1, 3))
        self.assertEqual(causes_of(run, 7, (0, "n")), (0, 4))

    def test_askings(self):
        run = Run(ASKING, [5, 6])
        self.assertEqual(askings_of(run, 7, (0, "e")), (0, 2))
        self.assertEqual(askings_of(run, 2, (0, "b")), (1,))
        self.assertEqual(askings_of(run, 3, (0, "b")), ())
        self.assertEqual(askings_of(run, 0, (0, "b")), ())
        loop = plain((("get", "x"), ("set", "s", "add", "s", "x"), ("if", "x", 0), ("back", "s")))
        self.assertEqual(askings_of(Run(loop, [1, 2]), 8, (0, "s")), (0, 1, 2))

    def test_effects(self):
        run = Run(KINDS, [3])
        self.assertEqual(effects_of(run, 0), (1, 2, 3, 4, 5, 6, 7, 9))
        self.assertEqual(effects_of(run, 6), (7, 9))
        self.assertEqual(effects_of(run, 3), ())
        self.assertEqual(effects_of(run, 9), ())
        self.assertEqual(effects_of(Run(ASKING, [5, 6]), 1), ())
        self.assertEqual(effects_of(Run(ASKING, [5, 6]), 2), (5,))

    def test_by_chance(self):
        chance = chance_of(902)
        for at in range(60):
            run = changed_run(chance, 150)
            told = traces(run)
            for t, cell in some_cells(chance, run, 25):
                causes = sorted(told[t].get(cell, ()))
                self.assertEqual(causes_of(run, t, cell), tuple(causes))
                self.assertEqual(last_write(run, t, cell), max(causes, default=None))
                self.assertEqual(askings_of(run, t, cell), tuple(
                    run.state(step)[2] for step in causes if run.program().row(run.spot_at(step))[0] == "get"))
            for step in chance.sample(range(run.last()), min(5, run.last())):
                self.assertEqual(effects_of(run, step), tuple(
                    later for later in range(step + 1, run.last())
                    if any(step in told[later].get(cell, ()) for cell in reads_anew(run, later))))

    def test_errors(self):
        run = Run(KINDS, [3])
        for function in (last_write, causes_of, askings_of, causes_paper):
            self.refuses_all(NoRun, odd_values(), function, behind=(None, None))
            self.refuses_all(NoMoment, odd_values() + [11], function, run, behind=(None,))
            self.refuses_all(NoCell, odd_values() + [(0, "v"), (0, "p"), (5, "p"), (1, "x"), [0, "x"], (False, "x")],
                             function, run, 4)
            self.assertEqual(self.told(NoCell, function, run, 10, (0, "x")), (0, "x"))
            self.assertEqual(self.told(NoCell, function, run, 5, (5, "x")), (5, "x"))
        for function in (is_enough, is_closed_lot, shows_causes):
            self.refuses_all(NoRun, odd_values(), function, behind=(None, None, None))
            self.refuses_all(NoMoment, odd_values() + [11], function, run, behind=(None, None))
            self.refuses_all(NoCell, odd_values() + [(5, "p")], function, run, 4, behind=(None,))


class Redoing(Told):
    def test_lots_of_steps(self):
        run = Run(KINDS, [3])
        cell = (0, "x")
        self.assertEqual(redone(run, [], 9, cell), 0)
        self.assertEqual(redone(run, (0,), 9, cell), 3)
        self.assertEqual(redone(run, (0, 1, 2, 4, 5, 6), 9, cell), 3)
        self.assertEqual(redone(run, (1, 2, 4, 5, 6), 9, cell), 0)
        self.assertEqual(redone(run, (0, 4, 5, 6), 9, cell), 9970)
        self.assertEqual(redone(run, (0, 1, 2, 4), 9, (0, "y")), 6)
        self.assertEqual(redone(run, (3, 7, 8, 9), 9, cell), 0)
        self.assertEqual(redone(run, (0, 1, 2, 4), 5, (5, "q")), 6)

    def test_steps_from_the_moment_on_may_be_among_them(self):
        run = Run(KINDS, [3])
        self.assertEqual(redone(run, (0, 1, 2, 4, 5, 6), 1, (0, "z")), 6)
        self.assertEqual(redone(run, (0, 4, 5, 6), 0, (0, "x")), 9970)
        self.assertEqual(redone(run, list(range(10)), 0, (0, "y")), 6)

    def test_the_inputs_are_taken_by_their_numbers(self):
        run = Run(ASKING, [5, 6])
        self.assertEqual(redone(run, (1,), 2, (0, "b")), 6)
        self.assertEqual(redone(run, (3,), 4, (0, "c")), 0)
        self.assertEqual(redone(run, (0, 4, 6), 7, (0, "e")), 5)

    def test_changes_are_not_redone(self):
        run = Run(COUNTDOWN, [2], [(0, 0, "s", 5), (1, 0, "n", 4)])
        self.assertEqual(redone(run, (0,), 1, (0, "n")), 2)
        self.assertFalse(is_enough(run, 1, (0, "n"), (0,)))
        self.assertFalse(is_enough(run, 0, (0, "s"), ()))
        self.assertTrue(is_enough(run, 0, (0, "n"), ()))

    def test_by_chance(self):
        chance = chance_of(903)
        for _ in range(60):
            run = changed_run(chance, 100)
            for t, cell in some_cells(chance, run, 8):
                steps = sorted(chance.sample(range(run.last()), chance.randrange(run.last() + 1)))
                self.assertEqual(redone(run, steps, t, cell), redone_anew(run, steps, cell))

    def test_the_causes_are_enough(self):
        chance = chance_of(904)
        for _ in range(40):
            run = random_run(chance, 150)
            for t, cell in some_cells(chance, run, 15):
                causes = causes_of(run, t, cell)
                self.assertEqual(redone(run, causes, t, cell), run.cell_at(t, cell))
                self.assertTrue(is_enough(run, t, cell, causes))
                self.assertTrue(is_closed_lot(run, t, cell, causes))
                self.assertTrue(is_enough(run, t, cell, tuple(range(t))))
                self.assertTrue(is_closed_lot(run, t, cell, tuple(range(t))))
                for step in causes:
                    self.assertFalse(is_closed_lot(run, t, cell, tuple(one for one in causes if one != step)))

    def test_errors(self):
        run = Run(KINDS, [3])
        self.refuses_all(NoRun, odd_values(), redone, behind=(None, None, None))
        for steps in (None, 0, "", {0: 1}, range(2), {0}, True):
            self.assertIsNone(self.told(NoMoment, redone, run, steps, None, None))
        for step in odd_values() + [10, 11, -1]:
            self.assertIs(self.told(NoMoment, redone, run, [0, step], None, None), step)
        self.assertEqual(self.told(NoMoment, redone, run, [-1, 3], None, None), -1)
        self.assertEqual(self.told(NoMoment, redone, run, [3, 3], None, None), 3)
        self.assertEqual(self.told(NoMoment, redone, run, (3, 2, 99), None, None), 2)
        self.refuses_all(NoMoment, odd_values() + [11], redone, run, [9], behind=(None,))
        self.refuses_all(NoCell, odd_values() + [(5, "p")], redone, run, [9], 4)


class Lots(Told):
    def test_all_lots_of_a_small_run(self):
        run = Run(TWO, [4, 0])
        cell = (0, "z")
        lots = [lot for size in range(6) for lot in itertools.combinations(range(5), size)]
        self.assertEqual([lot for lot in lots if is_closed_lot(run, 5, cell, lot)],
                         [lot for lot in lots if {0, 2} <= set(lot) and (3 not in lot or 1 in lot)])
        self.assertEqual([lot for lot in lots if is_enough(run, 5, cell, lot)],
                         [lot for lot in lots if {0, 2} <= set(lot)])

    def test_without_a_last_write(self):
        run = Run(TWO, [4, 0])
        self.assertTrue(is_closed_lot(run, 0, (0, "z"), ()))
        self.assertTrue(is_enough(run, 0, (0, "z"), ()))
        self.assertTrue(is_closed_lot(run, 2, (0, "z"), ()))
        self.assertTrue(is_closed_lot(run, 2, (0, "z"), (1,)))

    def test_a_lot_may_be_enough_and_not_closed(self):
        run = Run(TWO, [0, 0])
        self.assertTrue(is_enough(run, 3, (0, "z"), (2,)))
        self.assertFalse(is_closed_lot(run, 3, (0, "z"), (2,)))

    def test_steps_from_the_moment_on_are_in_no_lot(self):
        run = Run(TWO, [4, 0])
        for function in (is_enough, is_closed_lot):
            self.assertIs(function(run, 3, (0, "z"), (0, 1, 2)), True)
            self.likes_none([(0, 1, 2, 3), (0, 1, 2, 4), (0, 1, 2, 3, 4, 5)], function, run, 3, (0, "z"))

    def test_what_is_no_lot(self):
        run = Run(TWO, [4, 0])
        for function in (is_enough, is_closed_lot):
            self.assertIs(function(run, 3, (0, "z"), (0, 2)), True)
            self.likes_none(odd_values() + [
                [0, 2], (0, 2, 2), (2, 0), (0, 2, 3), (0, 2, 5), (0, 2, None), (False, 2), (0, 1, 2.0), (-1, 0, 2),
                (0, 0, 2), (0, True, 2), (0, Odd(), 2), "02", {0: 1, 2: 1}, {0, 2}, range(3)], function, run, 3, (0, "z"))


class Agreeing(Told):
    def agree(self, one, other, t, cell):
        told = agree_about(one, other, t, cell)
        if told:
            self.assertEqual(one.cell_at(t, cell), other.cell_at(t, cell))
        return told

    def test_like_runs(self):
        self.assertIs(self.agree(Run(TWO, [4, 0]), Run(TWO, (4, 0)), 5, (0, "z")), True)

    def test_other_inputs_that_it_does_not_ask(self):
        one = Run(TWO, [4, 1])
        self.assertTrue(self.agree(one, Run(TWO, [4, 2]), 5, (0, "z")))
        self.assertFalse(self.agree(one, Run(TWO, [4, 2]), 5, (0, "y")))
        self.assertFalse(self.agree(one, Run(TWO, [3, 1]), 5, (0, "z")))
        self.assertTrue(self.agree(one, Run(TWO, [3, 1]), 1, (0, "z")))

    def test_beyond_the_last_input(self):
        one = Run(ASKING, [5, 6])
        self.assertTrue(self.agree(one, Run(ASKING, [5]), 7, (0, "e")))
        self.assertTrue(self.agree(one, Run(ASKING, [5, 9, 0, 3]), 7, (0, "e")))
        self.assertFalse(self.agree(one, Run(ASKING, [5, 6, 1]), 7, (0, "e")))
        self.assertFalse(self.agree(Run(ASKING, [5, 6, 1]), one, 7, (0, "e")))

    def test_like_programs(self):
        renamed = plain(TWO.procedure("main")[2], "main")
        self.assertTrue(self.agree(Run(TWO, [4, 0]), Run(renamed, [4, 0]), 3, (0, "z")))
        longer = plain(TWO.procedure("main")[2][:-1] + (("out", 1), ("back", "z")))
        self.assertFalse(self.agree(Run(TWO, [4, 0]), Run(longer, [4, 0]), 3, (0, "z")))

    def test_the_second_one_has_the_moment(self):
        one, other = Run(COUNTDOWN, [1]), Run(COUNTDOWN, [0])
        self.assertTrue(self.agree(one, other, 1, (0, "s")))
        self.assertTrue(self.agree(one, other, 2, (0, "s")))
        self.assertTrue(self.agree(one, other, 3, (0, "s")))
        self.assertFalse(self.agree(one, other, 4, (0, "s")))
        self.assertFalse(self.agree(one, other, 5, (0, "s")))

    def test_like_spots(self):
        one, other = Run(TWO, [4, 0]), Run(TWO, [4, 0], [(3, 0, "z", 9)])
        self.assertFalse(self.agree(one, other, 3, (0, "z")))
        skipping = plain((("get", "x"), ("if", "x", 3), ("go", 3), ("copy", "y", 2), ("back", "y")))
        self.assertFalse(self.agree(Run(skipping, [1]), Run(skipping, [0]), 3, (0, "y")))
        self.assertTrue(self.agree(Run(skipping, [1]), Run(skipping, [0]), 2, (0, "y")))
        self.assertTrue(self.agree(Run(skipping, [1]), Run(skipping, [2]), 3, (0, "y")))

    def test_changes_of_the_cell_itself(self):
        one = Run(TWO, [4, 0])
        for moment, told in ((0, True), (2, True), (3, False), (4, False), (5, False)):
            other = Run(TWO, [4, 0], [(moment, 0, "z", 7)])
            self.assertIs(self.agree(one, other, 5, (0, "z")), told, moment)
            self.assertIs(self.agree(other, one, 5, (0, "z")), told, moment)
        self.assertTrue(self.agree(one, Run(TWO, [4, 0], [(5, 0, "z", 7)]), 4, (0, "z")))
        self.assertFalse(self.agree(one, Run(TWO, [4, 0], [(4, 0, "z", 7)]), 4, (0, "z")))

    def test_changes_of_a_cell_without_a_last_write(self):
        one = Run(TWO, [4, 0])
        for moment, told in ((0, False), (1, False), (2, True)):
            other = Run(TWO, [4, 0], [(moment, 0, "z", 0)])
            self.assertIs(self.agree(one, other, 1, (0, "z")), told)

    def test_changes_of_what_a_cause_reads(self):
        one = Run(TWO, [4, 0])
        for moment, told in ((0, True), (1, False), (2, False), (3, True), (4, True)):
            other = Run(TWO, [4, 0], [(moment, 0, "x", 4)])
            self.assertIs(self.agree(one, other, 5, (0, "z")), told, moment)
            self.assertIs(self.agree(other, one, 5, (0, "z")), told, moment)
        self.assertTrue(self.agree(one, Run(TWO, [4, 0], [(2, 0, "y", 0)]), 5, (0, "z")))

    def test_idle_changes_count(self):
        one = Run(TWO, [4, 0])
        self.assertFalse(self.agree(one, Run(TWO, [4, 0], [(4, 0, "z", 5)]), 5, (0, "z")))

    def test_by_chance(self):
        chance = chance_of(905)
        agreed = 0
        for _ in range(150):
            one = changed_run(chance, 80)
            inputs = list(one.inputs()) if chance.random() < 0.4 else random_inputs(chance)
            try:
                changes = random_changes(chance, one)[:2]
                other = Run(one.program(), inputs, changes if chance.random() < 0.6 else one.changes())
            except (TooMany, ValueError):
                continue
            for t, cell in some_cells(chance, one, 20):
                agreed += self.agree(one, other, t, cell) is True
        self.assertGreater(agreed, 300)

    def test_errors(self):
        run = Run(TWO, [4, 0])
        self.refuses_all(NoRun, odd_values(), agree_about, behind=(None, None, None))
        self.refuses_all(NoRun, odd_values(), agree_about, run, behind=(None, None))
        self.refuses_all(NoMoment, odd_values() + [7], agree_about, run, Run(COUNTDOWN, [2]), behind=(None,))
        self.refuses_all(NoCell, odd_values() + [(0, "n"), (1, "x")], agree_about, run, Run(COUNTDOWN, [2]), 6)
        self.assertIs(agree_about(run, Run(COUNTDOWN, [2]), 4, (0, "z")), False)


class Papers(Told):
    def test_told(self):
        run = Run(TWO, [4, 0])
        self.assertEqual(causes_paper(run, 5, (0, "z")), (2, ((0, ()), (2, (((0, "x"), 0),)))))
        self.assertEqual(causes_paper(run, 0, (0, "z")), (None, ()))
        self.assertEqual(causes_paper(Run(KINDS, [3]), 6, (5, "w")), (5, (
            (0, ()), (1, (((0, "x"), 0),)), (2, (((0, "y"), 1),)), (4, (((0, "x"), 0), ((0, "z"), 2))),
            (5, (((5, "p"), 4), ((5, "q"), 4))))))

    def test_cells_without_a_last_write_are_in_it(self):
        run = Run(plain((("set", "x", "add", "y", "z"), ("back", "x"))))
        paper = (0, ((0, (((0, "y"), None), ((0, "z"), None))),))
        self.assertEqual(causes_paper(run, 1, (0, "x")), paper)
        self.assertIs(shows_causes(run, 1, (0, "x"), paper), True)
        self.assertIs(shows_causes(run, 1, (0, "x"), (0, ((0, (((0, "y"), 0), ((0, "z"), None))),))), False)

    def test_by_chance(self):
        chance = chance_of(906)
        for _ in range(30):
            run = changed_run(chance, 100)
            for t, cell in some_cells(chance, run, 10):
                write, rows = causes_paper(run, t, cell)
                self.assertEqual(write, last_write(run, t, cell))
                self.assertEqual(tuple(step for step, _ in rows), causes_of(run, t, cell))
                for step, reads in rows:
                    self.assertEqual(reads, tuple(
                        (read, last_write(run, step, read)) for read in reads_of(run, step)))
                self.assertIs(shows_causes(run, t, cell, (write, rows)), True)

    def test_wrong_ones(self):
        run = Run(TWO, [4, 0])
        right = (2, ((0, ()), (2, (((0, "x"), 0),))))
        self.assertIs(shows_causes(run, 5, (0, "z"), right), True)
        self.likes_none(odd_values() + [
            (None, ()), (2, ()), (2, ((2, (((0, "x"), 0),)),)), (2, ((2, (((0, "x"), 0),)), (0, ()))),
            (1, right[1]), (2.0, right[1]), list(right), (2, list(right[1])), right + (1,), right[:1],
            (2, ((False, ()), right[1][1])), (2, ((0, ()), (2, (((False, "x"), 0),)))), (2, ((0, []), right[1][1])),
            (2, ((0, ()), (2, (((0, "x"), None),)))), (2, ((0, ()), (2, (((0, "y"), 0),)))),
            (2, ((0, ()), (2, (((0, "x"), 0), ((0, "x"), 0))))), (2, right[1] + ((3, ()),)), (Odd(), right[1]),
            (2, ((0, Odd()), right[1][1])), (2, ((0, ()), (2, ((Odd(), 0),))))], shows_causes, run, 5, (0, "z"))
        self.assertIs(shows_causes(run, 0, (0, "z"), (None, ())), True)
        self.likes_none([(0, ()), (False, ()), (None, None), (None, []), None], shows_causes, run, 0, (0, "z"))
        self.assertIs(shows_causes(Run(CALLER, [1]), 0, (0, "x"), right), False)


if __name__ == "__main__":
    unittest.main()
