"""Promise [11]: branches, idle and lean changes, cells at which runs are unlike, runs that join; of [0.2] (e)."""

import itertools
import unittest

from plainmoment.branches import branch_of, idle_changes, joined_at, lean_changes, main_of, unlike_cells
from plainmoment.errors import NoChanges, NoMoment, NoRun, TooMany
from plainmoment.programs import Program
from plainmoment.runs import Run
from tests.samples import CALLER, COUNTDOWN, Told, changed_run, chance_of, odd_values, plain, random_changes

# The call of f or of g is made at the same step, so frames of one born may be of unlike procedures.
FORKED = Program([
    ("main", (), (
        ("if", "x", 3),
        ("call", "y", "f", (7,)),
        ("back", "y"),
        ("call", "y", "g", (8,)),
        ("back", "y"),
    )),
    ("f", ("p",), (("copy", "q", 1), ("back", "p"))),
    ("g", ("p",), (("copy", "q", 2), ("back", "p"))),
])

# It ends sooner with an x other than 0; without changes it waits for ever.
ENDLESS = plain((("if", "x", 2), ("go", 0), ("back", "x")))


def values_anew(run, state, cell):
    for frame in state[1]:
        if frame[0] == cell[0] and cell[1] in run.program().variables_of(frame[1]):
            return dict(frame[3]).get(cell[1], 0)
    return None


class Branches(Told):
    def test_branch_of(self):
        run = Run(COUNTDOWN, [2], [(1, 0, "n", 1)])
        branch = branch_of(run, [(1, 0, "s", 4), (3, 0, "s", 8)])
        self.assertEqual(branch, Run(COUNTDOWN, [2], [(1, 0, "n", 1), (1, 0, "s", 4), (3, 0, "s", 8)]))
        self.assertEqual(branch_of(run, ()), run)
        self.assertEqual(branch_of(Run(COUNTDOWN, [2]), ((1, 0, "n", 1),)), run)

    def test_up_to_the_first_change_it_is_the_main_run(self):
        chance = chance_of(1101)
        for _ in range(40):
            run = changed_run(chance, 200)
            if not run.changes():
                continue
            main = Run(run.program(), run.inputs())
            first = run.changes()[0][0]
            self.assertEqual([run.state(t) for t in range(first)], [main.state(t) for t in range(first)])
            self.assertEqual(run.ahead(first), main.state(first))

    def test_the_index_is_that_in_all_of_them(self):
        run = Run(COUNTDOWN, [2], [(1, 0, "n", 1), (3, 0, "n", 1)])
        self.assertEqual(self.told(NoChanges, branch_of, run, [(2, 0, "n", 1)]), 2)
        self.assertEqual(self.told(NoChanges, branch_of, run, [(4, 0, "n", 1), (4, 5, "n", 1)]), 3)
        self.assertEqual(self.told(NoChanges, branch_of, run, [(4, 0, "n", 1), (99, 0, "n", 1)]), 3)
        self.assertEqual(self.told(NoChanges, branch_of, run, [(4, 0, "n", 1), None]), 3)
        # What is put behind may take away the moment of what was there.
        self.assertEqual(self.told(NoChanges, branch_of, Run(COUNTDOWN, [2], [(1, 0, "n", 9)]), [(50, 0, "n", 1)]), 1)

    def test_errors(self):
        run = Run(COUNTDOWN, [2], [(1, 0, "n", 1)])
        for function in (branch_of, unlike_cells, joined_at):
            behind = (None, None) if function == unlike_cells else (None,)
            self.refuses_all(NoRun, odd_values(), function, behind=behind)
        for function in (main_of, idle_changes, lean_changes):
            self.refuses_all(NoRun, odd_values(), function)
        for changes in (None, 0, "", {}, range(0), {1: 1}, True):
            self.assertIsNone(self.told(NoChanges, branch_of, run, changes))
        self.assertIsNone(self.told(NoChanges, branch_of, run, [(1, 0, "n", 1)] * 8))
        self.assertIsNone(self.told(NoChanges, branch_of, run, [None] * 8))
        self.assertEqual(len(branch_of(run, [(1, 0, "n", 1)] * 7).changes()), 8)
        self.assertEqual(self.most(branch_of, Run(ENDLESS, (), [(0, 0, "x", 1)]), [(0, 0, "x", 0)]), 600)

    def test_main_of(self):
        run = Run(COUNTDOWN, [2], [(1, 0, "n", 1)])
        self.assertEqual(main_of(run), Run(COUNTDOWN, [2]))
        self.assertEqual(main_of(main_of(run)), Run(COUNTDOWN, [2]))
        self.assertEqual(self.most(main_of, Run(ENDLESS, (), [(0, 0, "x", 1)])), 600)
        deep = Program([("main", (), (("call", "x", "f", (1,)), ("back", "x"))),
                        ("f", ("p",), (("if", "p", 2), ("back", 0), ("call", "x", "f", ("p",)), ("back", "x")))])
        self.assertEqual(self.most(main_of, Run(deep, (), [(1, 1, "p", 0)])), 10)


class Changes(Told):
    def test_idle_ones(self):
        changes = [(1, 0, "n", 2), (1, 0, "n", 3), (1, 0, "n", 3), (1, 0, "n", 2), (3, 0, "s", 0), (3, 0, "s", 9)]
        self.assertEqual(idle_changes(Run(COUNTDOWN, [2], changes)), [0, 2, 4])
        self.assertEqual(idle_changes(Run(COUNTDOWN, [2])), [])

    def test_lean_ones(self):
        changes = [(1, 0, "n", 2), (1, 0, "n", 3), (1, 0, "n", 2), (3, 0, "s", 4), (3, 0, "n", 9), (3, 0, "s", 9)]
        self.assertEqual(lean_changes(Run(COUNTDOWN, [2], changes)), ((3, 0, "n", 9), (3, 0, "s", 9)))
        self.assertEqual(lean_changes(Run(COUNTDOWN, [2])), ())
        self.assertEqual(lean_changes(Run(CALLER, [2], [(2, 2, "p", 5), (2, 0, "z", 1), (2, 0, "x", 1)])),
                         ((2, 0, "x", 1), (2, 0, "z", 1), (2, 2, "p", 5)))

    def test_by_chance(self):
        chance = chance_of(1102)
        idle = 0
        for _ in range(120):
            run = changed_run(chance, 100)
            changes = [one for one in run.changes() for _ in range(chance.choice((1, 1, 2)))][:8]
            run = Run(run.program(), run.inputs(), changes)
            lean = lean_changes(run)
            self.assertEqual(list(lean), sorted(set(lean)))
            other = Run(run.program(), run.inputs(), lean)
            self.assertEqual([other.state(t) for t in range(other.last() + 1)],
                             [run.state(t) for t in range(run.last() + 1)])
            self.assertEqual(idle_changes(other), [])
            wanted = {(t, cell) for t in range(run.last() + 1) for cell in {change[1:3] for change in changes}
                      if values_anew(run, run.state(t), cell) != values_anew(run, run.ahead(t), cell)}
            self.assertEqual({(change[0], change[1:3]) for change in lean}, wanted)
            held = {}
            told = []
            for at, (t, born, name, value) in enumerate(changes):
                old = held.get((t, born, name), values_anew(run, run.ahead(t), (born, name)))
                if old == value:
                    told.append(at)
                held[t, born, name] = value
            self.assertEqual(idle_changes(run), told)
            idle += len(told)
        self.assertGreater(idle, 30)

    def test_with_fewer_no_run_has_the_same_states(self):
        run = Run(COUNTDOWN, [2], [(1, 0, "n", 1), (1, 0, "s", 3), (1, 0, "n", 2), (1, 0, "n", 1), (3, 0, "s", 0)])
        lean = lean_changes(run)
        self.assertEqual(lean, ((1, 0, "n", 1), (1, 0, "s", 3)))
        for size in range(len(lean)):
            for part in itertools.combinations(run.changes(), size):
                other = Run(COUNTDOWN, [2], part)
                self.assertNotEqual([other.state(t) for t in range(min(other.last(), 4))],
                                    [run.state(t) for t in range(min(other.last(), 4))])


class TwoRuns(Told):
    def test_unlike_cells(self):
        one, other = Run(CALLER, [2]), Run(CALLER, [2], [(2, 2, "p", 5), (2, 0, "z", 1)])
        self.assertEqual(unlike_cells(one, other, 1), [])
        self.assertEqual(unlike_cells(one, other, 2), [(0, "z"), (2, "p")])
        self.assertEqual(unlike_cells(other, one, 2), [(0, "z"), (2, "p")])
        self.assertEqual(unlike_cells(one, other, 4), [(0, "y"), (0, "z")])
        self.assertEqual(unlike_cells(one, Run(CALLER, [3]), 1), [(0, "x")])
        self.assertEqual(unlike_cells(one, one, 1), [])

    def test_frames_of_unlike_procedures_count_for_nothing(self):
        one, other = Run(FORKED), Run(FORKED, (), [(0, 0, "x", 1)])
        self.assertEqual([one.state(3)[1][1][:2], other.state(3)[1][1][:2]], [(2, "f"), (2, "g")])
        self.assertEqual(unlike_cells(one, other, 3), [(0, "x")])

    def test_frames_of_unlike_borns_count_for_nothing(self):
        program = Program([
            ("main", (), (("if", "x", 2), ("copy", "y", 1), ("call", "y", "f", ("x",)), ("back", "y"))),
            ("f", ("p",), (("copy", "q", 1), ("back", "q")))])
        one, other = Run(program), Run(program, (), [(0, 0, "x", 1)])
        self.assertEqual([one.state(3)[1][1][0], other.state(3)[1][1][0]], [3, 2])
        self.assertEqual(unlike_cells(one, other, 3), [(0, "x"), (0, "y")])

    def test_frames_in_one_state_alone(self):
        one, other = Run(COUNTDOWN, [0]), Run(COUNTDOWN, [1])
        self.assertEqual(unlike_cells(one, other, 4), [])
        self.assertEqual(self.told(NoMoment, unlike_cells, one, other, 5), 5)
        self.assertEqual(self.told(NoMoment, unlike_cells, other, one, 5), 5)

    def test_unlike_cells_by_chance(self):
        chance = chance_of(1103)
        for _ in range(40):
            one = changed_run(chance, 100)
            try:
                other = Run(one.program(), one.inputs(), random_changes(chance, one))
            except (NoChanges, TooMany):
                continue
            for t in range(min(one.last(), other.last()) + 1):
                wanted = []
                for frame in one.state(t)[1]:
                    for name in one.program().variables_of(frame[1]):
                        if frame[:2] in [twin[:2] for twin in other.state(t)[1]] and (
                                one.cell_at(t, (frame[0], name)) != other.cell_at(t, (frame[0], name))):
                            wanted.append((frame[0], name))
                self.assertEqual(unlike_cells(one, other, t), wanted)

    def test_unlike_cells_errors(self):
        run = Run(COUNTDOWN, [2])
        self.refuses_all(NoRun, odd_values() + [Run(CALLER, [2])], unlike_cells, run, behind=(None,))
        self.refuses_all(NoMoment, odd_values() + [13], unlike_cells, run, Run(COUNTDOWN, [9]))

    def test_joined(self):
        run = Run(COUNTDOWN, [2])
        self.assertEqual(joined_at(run, run), 0)
        self.assertEqual(joined_at(run, Run(COUNTDOWN, [2], [(1, 0, "n", 2)])), 0)
        self.assertEqual(joined_at(run, Run(COUNTDOWN, [2], [(1, 0, "s", 7)])), 2)
        self.assertEqual(joined_at(Run(COUNTDOWN, [2], [(1, 0, "s", 7)]), run), 2)
        self.assertIsNone(joined_at(run, Run(COUNTDOWN, [2], [(1, 0, "n", 3)])))
        self.assertIsNone(joined_at(run, Run(COUNTDOWN, [2], [(4, 0, "s", 7)])))

    def test_joined_at_the_end_alone(self):
        run = Run(COUNTDOWN, [2])
        other = Run(COUNTDOWN, [2], [(11, 0, "n", 7)])
        self.assertEqual(joined_at(run, other), 12)

    def test_outputs_keep_runs_apart(self):
        program = plain((("out", "x"), ("copy", "x", 1), ("back", "x")))
        self.assertIsNone(joined_at(Run(program), Run(program, (), [(0, 0, "x", 2)])))
        self.assertEqual(joined_at(Run(program), Run(program, (), [(1, 0, "x", 2)])), 2)

    def test_a_run_that_ends_sooner(self):
        program = plain((("if", "x", 2), ("copy", "y", 0), ("copy", "x", 0), ("back", 0)))
        self.assertIsNone(joined_at(Run(program), Run(program, (), [(0, 0, "x", 2)])))

    def test_joined_errors(self):
        run = Run(COUNTDOWN, [2])
        self.refuses_all(NoRun, odd_values() + [Run(CALLER, [2]), Run(COUNTDOWN, [3]), Run(COUNTDOWN, [2, 0])],
                         joined_at, run)


if __name__ == "__main__":
    unittest.main()
