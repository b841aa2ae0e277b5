"""Promise [20], two what-ifs: reach, conflicts, joined runs and what is put together; of [0.2] (i)."""

import unittest

from plainmoment.apart import (are_apart, conflicts_of, joined_run, keeps_rows, plain_run, put_together, reach_of)
from plainmoment.causes import reads_of
from plainmoment.errors import NoChanges, NoMoment, NoRun, TooMany
from plainmoment.programs import Program
from plainmoment.runs import Run
from tests.samples import CALLER, COUNTDOWN, Told, chance_of, odd_values, plain, random_run

# Two values that do not meddle until the last row but one, and an if that asks a third.
TWO = plain((("get", "x"), ("get", "y"), ("set", "x", "mul", "x", 2), ("set", "y", "mul", "y", 3), ("if", "z", 6),
             ("out", "x"), ("out", "y"), ("back", "x")))
INPUTS = [5, 7]


def run_of(*changes, program=TWO, inputs=INPUTS):
    return Run(program, inputs, changes)


def cells_of(run, t):
    """The values of the cells of all frames at a moment, by born, procedure and variable."""
    return {(frame[0], frame[1], name): dict(frame[3]).get(name, 0) for frame in run.state(t)[1]
            for name in run.program().variables_of(frame[1])}


def reach_anew(main, run):
    found = []
    for t in range(min(main.last(), run.last()) + 1):
        one, other = cells_of(main, t), cells_of(run, t)
        found += [(t, (key[0], key[2])) for key in one if key in other and one[key] != other[key]]
    return sorted(found)


def conflicts_anew(main, one, other):
    found = set()
    reaches = [set(reach_anew(main, run)) for run in (one, other)]
    for n, run in enumerate((one, other)):
        spots = [[told.spot_at(t) for t in range(told.last())] + [None] for told in (main, run)]
        unlike = [t for t in range(min(map(len, spots))) if spots[0][t] != spots[1][t]]
        if unlike:
            found.add((unlike[0], 0, n))
        found |= {(change[0], 2, change[1:3]) for change in run.changes() if (change[0], change[1:3]) in reaches[1 - n]}
    found |= {(t, 1, cell) for t, cell in reaches[0] & reaches[1]}
    for t in range(main.last()):
        cells = reads_of(main, t)
        found |= {(t, 3, (a, b)) for a in cells for b in cells if (t, a) in reaches[0] and (t, b) in reaches[1]}
    return [(("rows", "both", "change", "step")[rank], t, told) for t, rank, told in sorted(found)]


def lot_by_chance(chance, main, most=2):
    """A run with up to so many changes, by chance, beside a main run."""
    while True:
        changes = []
        for t in sorted(chance.randrange(main.last()) for _ in range(chance.randrange(most + 1))):
            frame = chance.choice(main.state(t)[1])
            names = main.program().variables_of(frame[1])
            if names:
                changes.append((t, frame[0], chance.choice(names), chance.choice((0, 1, chance.randrange(9973)))))
        try:
            return Run(main.program(), main.inputs(), changes)
        except (TooMany, NoChanges):
            continue


class Reach(Told):
    def test_ordinary(self):
        self.assertEqual(reach_of(run_of((1, 0, "x", 6))), [(t, (0, "x")) for t in range(1, 8)])
        self.assertEqual(reach_of(run_of((6, 0, "y", 6))), [(6, (0, "y")), (7, (0, "y"))])
        self.assertEqual(reach_of(run_of()), [])

    def test_idle_and_healed_changes(self):
        self.assertEqual(reach_of(run_of((1, 0, "x", 5))), [])
        self.assertEqual(reach_of(run_of((0, 0, "x", 9))), [(0, (0, "x"))])
        self.assertEqual(reach_of(run_of((1, 0, "x", 9), (1, 0, "x", 5))), [])
        self.assertEqual(reach_of(run_of((1, 0, "x", 9), (2, 0, "x", 5))), [(1, (0, "x"))])

    def test_only_frames_that_stand_in_both(self):
        # With n put to 0 the call is at another row, and f is not there; z is unlike at the moments of both.
        program = Program([("main", (), (("get", "n"), ("if", "n", 3), ("go", 4), ("call", "x", "f", ("n",)),
                                         ("back", "x"))),
                           ("f", ("p",), (("out", "p"), ("back", "p")))])
        run = Run(program, [3], [(1, 0, "n", 0)])
        self.assertEqual((run.last(), plain_run(run).last()), (4, 6))
        self.assertEqual(reach_of(run), [(t, (0, "n")) for t in (1, 2, 3)])
        self.assertEqual(reach_of(Run(program, [3], [(1, 0, "n", 4)])),
                         [(1, (0, "n")), (2, (0, "n")), (3, (0, "n")), (3, (3, "p")), (4, (0, "n")), (4, (3, "p")),
                          (5, (0, "n")), (5, (0, "x"))])

    def test_frames_of_one_born_but_of_other_procedures(self):
        program = Program([("main", (), (("if", "n", 2), ("call", "x", "f", (1,)), ("call", "x", "g", (2,)),
                                         ("back", "x"))),
                           ("f", ("p",), (("back", "p"),)), ("g", ("p",), (("back", "p"),))])
        run = Run(program, [], [(0, 0, "n", 5)])
        self.assertEqual((run.state(2)[1][1][:2], plain_run(run).state(2)[1][1][:2]), ((2, "g"), (2, "f")))
        self.assertEqual([cell for t, cell in reach_of(run) if t == 2], [(0, "n")])

    def test_plain_runs(self):
        self.assertTrue(plain_run(run_of((1, 0, "x", 6))) == run_of())

    def test_rows(self):
        self.assertIs(keeps_rows(run_of((1, 0, "x", 6))), True)
        self.assertIs(keeps_rows(run_of()), True)
        self.assertIs(keeps_rows(run_of((4, 0, "z", 1))), False)
        self.assertIs(keeps_rows(run_of((5, 0, "z", 1))), True)
        self.assertIs(keeps_rows(Run(COUNTDOWN, [2], [(6, 0, "n", 0)])), False)
        self.assertIs(keeps_rows(Run(COUNTDOWN, [2], [(6, 0, "n", 2)])), False)

    def test_by_chance(self):
        chance = chance_of(201)
        for _ in range(60):
            main = random_run(chance, 60)
            run = lot_by_chance(chance, main, 4)
            self.assertEqual(reach_of(run), reach_anew(main, run))
            self.assertIs(keeps_rows(run), all(kind != "rows" for kind, _, _ in conflicts_anew(main, run, main)))

    def test_errors(self):
        endless = plain((("if", "x", 2), ("go", 0), ("back", 1)))
        for function in (plain_run, reach_of, keeps_rows):
            self.refuses_all(NoRun, odd_values(), function)
            self.assertEqual(self.most(function, Run(endless, [], [(0, 0, "x", 1)])), 600)


class Conflicts(Told):
    def test_none(self):
        one, other = run_of((1, 0, "x", 6)), run_of((2, 0, "y", 6))
        self.assertEqual(conflicts_of(one, other), [])
        self.assertIs(are_apart(one, other), True)
        self.assertIs(are_apart(run_of(), one), True)
        self.assertIs(are_apart(one, run_of((0, 0, "x", 6))), True)

    def test_rows(self):
        one, other = run_of((0, 0, "z", 1)), run_of((4, 0, "z", 1))
        self.assertEqual(conflicts_of(run_of(), one), [("rows", 5, 1)])
        self.assertEqual(conflicts_of(one, run_of()), [("rows", 5, 0)])
        self.assertEqual([told for told in conflicts_of(one, other) if told[0] == "rows"],
                         [("rows", 5, 0), ("rows", 5, 1)])
        short = Run(COUNTDOWN, [2], [(2, 0, "n", 0)])
        self.assertEqual(conflicts_of(short, Run(COUNTDOWN, [2])), [("rows", 3, 0)])
        # Just one of both has ended: there the spots ahead are the same.
        program = plain((("if", "x", 1), ("back", "y")))
        self.assertEqual(Run(program, [], [(0, 0, "x", 1)]).last(), 2)

    def test_both(self):
        one, other = run_of((5, 0, "x", 6)), run_of((6, 0, "x", 7))
        self.assertEqual(conflicts_of(one, other), [
            ("both", 6, (0, "x")), ("change", 6, (0, "x")), ("both", 7, (0, "x")), ("step", 7, ((0, "x"), (0, "x")))])

    def test_change_though_it_is_idle(self):
        one, idle = run_of((2, 0, "x", 6)), run_of((3, 0, "x", 10))
        self.assertEqual(conflicts_of(one, idle), [("change", 3, (0, "x"))])
        self.assertEqual(conflicts_of(idle, one), [("change", 3, (0, "x"))])
        self.assertTrue(are_apart(one, run_of((1, 0, "x", 5))))

    def test_each_is_told_once(self):
        one = run_of((3, 0, "x", 6), (3, 0, "x", 7))
        self.assertEqual([told for told in conflicts_of(one, one) if told[1] == 3],
                         [("both", 3, (0, "x")), ("change", 3, (0, "x"))])

    def test_step(self):
        program = plain((("get", "x"), ("get", "y"), ("set", "z", "mul", "x", "y"), ("back", "z")))
        one, other = Run(program, [0, 0], [(2, 0, "x", 5)]), Run(program, [0, 0], [(2, 0, "y", 5)])
        self.assertEqual(conflicts_of(one, other), [("step", 2, ((0, "x"), (0, "y")))])
        self.assertEqual(conflicts_of(other, one), [("step", 2, ((0, "y"), (0, "x")))])
        self.assertEqual(joined_run(one, other).result(), 25)

    def test_each_pair_of_cells(self):
        program = plain((("set", "z", "add", "x", "y"), ("back", 0)))
        one = Run(program, [], [(0, 0, "x", 1), (0, 0, "y", 1)])
        other = Run(program, [], [(0, 0, "x", 2), (0, 0, "y", 2)])
        steps = [told[2] for told in conflicts_of(one, other) if told[0] == "step"]
        self.assertEqual(steps, [((0, a), (0, b)) for a in "xy" for b in "xy"])

    def test_by_chance_as_the_document_says(self):
        chance = chance_of(202)
        apart = kinds = 0
        words = set()
        for _ in range(150):
            main = random_run(chance, 60)
            one, other = lot_by_chance(chance, main), lot_by_chance(chance, main)
            told = conflicts_anew(main, one, other)
            self.assertEqual(conflicts_of(one, other), told)
            self.assertIs(are_apart(one, other), not told)
            words |= {word for word, _, _ in told}
            kinds += len(told) > 1
            apart += not told
        self.assertGreater(min(apart, kinds), 10)
        self.assertEqual(len(words), 4)

    def test_errors(self):
        run = run_of((1, 0, "x", 6))
        endless = plain((("if", "x", 2), ("go", 0), ("back", 1)))
        ended = Run(endless, [], [(0, 0, "x", 1)])
        for function in (conflicts_of, are_apart):
            self.refuses_all(NoRun, odd_values(), function, behind=(None,))
            self.refuses_all(NoRun, [*odd_values(), Run(TWO, [5]), Run(CALLER, INPUTS)], function, run)
            self.assertEqual(self.most(function, ended, ended), 600)
            self.assertTrue(self.told(NoRun, function, ended, run) is run)


class Together(Told):
    def test_joined_runs(self):
        one, other = run_of((1, 0, "x", 6), (3, 0, "x", 7)), run_of((1, 0, "x", 8), (2, 0, "y", 9))
        self.assertEqual(joined_run(one, other).changes(), ((1, 0, "x", 6), (1, 0, "x", 8), (2, 0, "y", 9), (3, 0, "x", 7)))
        self.assertEqual(joined_run(other, one).changes()[:2], ((1, 0, "x", 8), (1, 0, "x", 6)))
        self.assertEqual(joined_run(run_of(), run_of()), run_of())

    def test_put_together(self):
        one, other = run_of((1, 0, "x", 6)), run_of((2, 0, "y", 8))
        self.assertEqual(put_together(one, other, 5), (5, ((0, "main", 5, (("x", 12), ("y", 24))),), 2, (), None))
        self.assertEqual(put_together(one, other, 8), (8, (), 2, (12, 24), 12))
        self.assertEqual(put_together(other, one, 8), (8, (), 2, (12, 24), 12))
        self.assertEqual(put_together(one, run_of(), 8), (8, (), 2, (12, 21), 12))
        self.assertEqual(put_together(run_of(), run_of(), 3), run_of().state(3))

    def test_more_than_eight(self):
        one, other = run_of(*(5 * [(1, 0, "x", 6)])), run_of(*(4 * [(2, 0, "y", 6)]))
        self.assertTrue(are_apart(one, other))
        self.assertIsNone(self.told(NoChanges, joined_run, one, other))
        self.assertEqual(put_together(one, other, 8)[3], (12, 18))

    def test_runs_that_do_not_come(self):
        one = Run(COUNTDOWN, [2], [(2, 0, "n", 0)])
        other = Run(COUNTDOWN, [2], [(9, 0, "s", 0)])
        self.assertEqual(self.told(NoChanges, joined_run, one, other), 1)
        endless = plain((("if", "x", 3), ("if", "y", 0), ("go", 4), ("set", "y", "mul", "y", "x"), ("back", 1)))
        one, other = Run(endless, [], [(2, 0, "y", 3)]), Run(endless, [], [(0, 0, "x", 0)])
        self.assertEqual(joined_run(one, other).last(), 4)
        loop = plain((("if", "x", 2), ("back", 1), ("if", "y", 0), ("back", 2)))
        one, other = Run(loop, [], [(0, 0, "x", 1)]), Run(loop, [], [(0, 0, "y", 1)])
        self.assertEqual(self.most(joined_run, one, other), 600)
        # The plain run is not asked.
        ended = plain((("if", "x", 2), ("go", 0), ("back", 1)))
        run = Run(ended, [], [(0, 0, "x", 1)])
        self.assertEqual(joined_run(run, run).last(), 2)
        self.assertEqual(self.most(put_together, run, run, 0), 600)

    def test_by_chance_apart_lots_make_together_what_each_makes(self):
        chance = chance_of(203)
        done = told = 0
        while done < 60:
            main = random_run(chance, 60)
            lots = [lot for lot in [lot_by_chance(chance, main) for _ in range(3)] if lot.changes()]
            if len(lots) < 2 or not are_apart(*lots[:2]):
                continue
            joined = joined_run(*lots[:2])
            self.assertIs(keeps_rows(joined), True)
            for t in range(main.last() + 1):
                self.assertEqual(put_together(*lots[:2], t), joined.state(t))
            told += all(reach_of(lot) for lot in lots[:2])
            done += 1
            if len(lots) == 3 and are_apart(lots[0], lots[2]) and are_apart(lots[1], lots[2]):
                self.assertTrue(are_apart(joined, lots[2]))
        self.assertGreater(told, 5)

    def test_errors(self):
        run = run_of((1, 0, "x", 6))
        for function, behind in ((joined_run, ()), (put_together, (None,))):
            self.refuses_all(NoRun, odd_values(), function, behind=(None, *behind))
            self.refuses_all(NoRun, [*odd_values(), Run(TWO, [5]), Run(CALLER, INPUTS)], function, run, behind=behind)
        self.refuses_all(NoRun, [run, run_of((4, 0, "z", 1))], put_together, run, behind=(None,))
        self.refuses_all(NoMoment, [*odd_values(), 9], put_together, run, run_of())


if __name__ == "__main__":
    unittest.main()
