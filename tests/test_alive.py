"""Promise [12]: live variables and their papers, alike states, meetings, healing, awaited cells; of [0.2] (e)."""

import itertools
import unittest

from plainmoment.alive import (alike_key, are_alike, awaited_cells, first_meeting, first_unlike, healed_at, judge_live,
                               live_at, live_beneath, live_paper)
from plainmoment.errors import NoChanges, NoInputs, NoMoment, NoProgram, NoRun, NoSpot, NoState, NoVariable, TooMany
from plainmoment.programs import Program
from plainmoment.runs import Run
from tests.samples import (CALLER, COUNTDOWN, Odd, Told, beneath_anew, changed_run, chance_of, is_live_anew, key_anew,
                           live_anew, names_in, odd_values, plain, random_changes, random_inputs, random_program,
                           random_run)

MAIN = "main"

# x is read far behind, y in one branch alone, z nowhere behind its writing.
BRANCHED = plain((
    ("get", "x"),
    ("copy", "y", "x"),
    ("if", "x", 5),
    ("copy", "z", "y"),
    ("go", 6),
    ("copy", "y", 1),
    ("back", "x"),
))

CALLING = Program([
    ("main", (), (
        ("get", "x"),
        ("call", "x", "f", ("x", "y")),
        ("call", "x", "f", (1, 2)),
        ("set", "y", "add", "y", "z"),
        ("call", "z", "f", ("x", 2)),
        ("out", "z"),
        ("back", "y"),
    )),
    ("f", ("p", "q"), (
        ("set", "p", "add", "p", "q"),
        ("if", "q", 3),
        ("back", 0),
        ("call", "q", "f", ("p", 0)),
        ("back", "p"),
    )),
])

ENDLESS = plain((("if", "x", 2), ("go", 0), ("back", "x")))


def changed_again(chance, run):
    """Another run of the program of a run: by other changes, or by other inputs, or None."""
    inputs = run.inputs() if chance.random() < 0.6 else random_inputs(chance)
    try:
        return Run(run.program(), inputs, random_changes(chance, run) if chance.random() < 0.8 else run.changes())
    except (NoChanges, TooMany):
        return None


class Live(Told):
    def test_behind_an_if(self):
        told = [live_at(BRANCHED, (MAIN, at)) for at in range(7)]
        self.assertEqual(told, [(), ("x",), ("x", "y"), ("x", "y"), ("x",), ("x",), ("x",)])

    def test_in_a_loop(self):
        told = [live_at(COUNTDOWN, (MAIN, at)) for at in range(7)]
        self.assertEqual(told, [(), ("n",), ("n", "s"), ("s",), ("n", "s"), ("n", "s"), ("n", "s")])

    def test_of_a_loop_without_an_end(self):
        program = plain((("copy", "x", "y"), ("if", "z", 0), ("go", 1)))
        self.assertEqual([live_at(program, (MAIN, at)) for at in range(3)], [("y", "z"), ("y", "z"), ("y", "z")])

    def test_at_calls(self):
        told = [live_at(CALLING, (MAIN, at)) for at in range(7)]
        self.assertEqual(told, [("y", "z"), ("x", "y", "z"), ("y", "z"), ("x", "y", "z"), ("x", "y"), ("y", "z"),
                                ("y",)])
        self.assertEqual([live_beneath(CALLING, (MAIN, at)) for at in (1, 2, 4)],
                         [("y", "z"), ("y", "z"), ("y",)])
        self.assertEqual(live_beneath(CALLING, ("f", 3)), ("p",))
        self.assertEqual(live_at(CALLING, ("f", 3)), ("p",))

    def test_a_row_that_reads_and_sets(self):
        program = plain((("set", "x", "add", "x", 1), ("back", 0)))
        self.assertEqual(live_at(program, (MAIN, 0)), ("x",))

    def test_by_chance(self):
        chance = chance_of(1201)
        for _ in range(100):
            program = random_program(chance)
            for spot in program.spots():
                self.assertEqual(live_at(program, spot), live_anew(program, spot))
                if program.row(spot)[0] == "call":
                    self.assertEqual(live_beneath(program, spot), beneath_anew(program, spot))
                else:
                    self.assertIs(self.told(NoSpot, live_beneath, program, spot), spot)

    def test_errors(self):
        for function in (live_at, live_beneath):
            self.refuses_all(NoProgram, odd_values(), function, behind=(None,))
            self.refuses_all(NoSpot, odd_values() + [(MAIN, 7), ("g", 0), [MAIN, 1], (MAIN, True)], function, CALLING)
        self.assertEqual(self.told(NoSpot, live_beneath, CALLING, (MAIN, 3)), (MAIN, 3))


class Papers(Told):
    def judge(self, paper, at=0, name="x", program=BRANCHED):
        return judge_live(program, (MAIN, at), name, paper)

    def ways(self, *told):
        return tuple((MAIN, at) for at in told)

    def test_ways(self):
        for way in ((1,), (1, 2), (1, 2, 5, 6), (1, 2, 3, 4, 6)):
            self.assertEqual(self.judge(("live", self.ways(*way)), 1), "live", way)
        for way in ((), (0, 1), (2,), (1, 3), (1, 2, 3), (1, 2, 3, 4), (1, 1), (1, 2, 6), (6,), (2, 5, 6)):
            self.assertIsNone(self.judge(("live", self.ways(*way)), 1), way)

    def test_a_way_goes_over_no_row_that_sets(self):
        self.assertIsNone(self.judge(("live", self.ways(0, 1)), 0))
        self.assertIsNone(self.judge(("live", self.ways(1, 2, 3)), 1, "y"))
        self.assertEqual(self.judge(("live", self.ways(2, 3)), 2, "y"), "live")
        # A row that both reads and sets ends a way, and none goes over it.
        self.assertEqual(self.judge(("live", self.ways(4)), 4, "s", COUNTDOWN), "live")
        self.assertIsNone(self.judge(("live", self.ways(4, 5, 6, 2, 3)), 4, "s", COUNTDOWN))

    def test_a_way_may_go_round(self):
        self.assertEqual(self.judge(("live", self.ways(2, 4, 5)), 2, "n", COUNTDOWN), "live")
        self.assertIsNone(self.judge(("live", self.ways(2, 4, 5, 6, 2)), 2, "n", COUNTDOWN))
        program = plain((("if", "a", 0), ("if", "b", 0), ("back", "c")))
        self.assertEqual(self.judge(("live", self.ways(0, 0, 1, 0, 1, 2)), 0, "c", program), "live")

    def test_dead_ones(self):
        self.assertEqual(self.judge(("dead", self.ways(0)), 0), "dead")
        self.assertEqual(self.judge(("dead", self.ways(5, 6)), 5, "z"), "dead")
        self.assertEqual(self.judge(("dead", self.ways(2, 3, 5, 6)), 2, "z"), "dead")
        self.assertEqual(self.judge(("dead", self.ways(2, 3, 4, 5, 6)), 2, "z"), "dead")
        self.assertEqual(self.judge(("dead", self.ways(0, 1, 2, 3, 4, 5, 6)), 3, "z"), "dead")
        self.assertIsNone(self.judge(("dead", self.ways(2, 3, 5)), 2, "z"))
        self.assertIsNone(self.judge(("dead", self.ways(2, 5, 6)), 2, "z"))
        self.assertIsNone(self.judge(("dead", self.ways(5, 6)), 2, "z"))
        self.assertIsNone(self.judge(("dead", self.ways(6, 5)), 5, "z"))
        self.assertIsNone(self.judge(("dead", self.ways(5, 6, 6)), 5, "z"))
        self.assertIsNone(self.judge(("dead", self.ways(0, 1)), 0, "x"))
        self.assertIsNone(self.judge(("dead", self.ways(0, 6)), 0, "x"))
        self.assertIsNone(self.judge(("dead", ()), 0, "x"))

    def test_spots_of_another_procedure(self):
        dead = (("f", 4), (MAIN, 6))
        self.assertIsNone(judge_live(CALLING, (MAIN, 6), "z", ("dead", dead)))
        self.assertIsNone(judge_live(CALLING, (MAIN, 6), "z", ("dead", dead[::-1])))
        self.assertEqual(judge_live(CALLING, (MAIN, 6), "z", ("dead", dead[1:])), "dead")
        self.assertIsNone(judge_live(CALLING, (MAIN, 1), "y", ("live", ((MAIN, 1), ("f", 0)))))

    def test_just_one_of_both_by_chance(self):
        chance = chance_of(1202)
        kinds = []
        for _ in range(60):
            program = random_program(chance)
            for spot in program.spots():
                for name in program.variables_of(spot[0]):
                    paper = live_paper(program, spot, name)
                    self.assertEqual(paper[0], "live" if is_live_anew(program, spot, name) else "dead")
                    self.assertEqual(judge_live(program, spot, name, paper), paper[0])
                    other = ("dead" if paper[0] == "live" else "live", paper[1])
                    self.assertIsNone(judge_live(program, spot, name, other))
                    kinds.append(paper[0])
        self.assertTrue(kinds.count("live") > 500 and kinds.count("dead") > 500)

    def test_all_papers_of_a_small_program(self):
        program = plain((("if", "x", 2), ("copy", "x", "y"), ("copy", "y", "x"), ("back", "y")))
        spots = program.spots()
        for spot, name in itertools.product(spots, ("x", "y")):
            lots = [lot for size in range(1, 5) for lot in itertools.combinations(spots, size)]
            dead = [lot for lot in lots if judge_live(program, spot, name, ("dead", lot)) == "dead"]
            ways = [way for size in range(1, 5) for way in itertools.product(spots, repeat=size)
                    if judge_live(program, spot, name, ("live", way)) == "live"]
            self.assertEqual(bool(ways), name in live_at(program, spot))
            self.assertEqual(not dead, name in live_at(program, spot))

    def test_what_is_no_paper(self):
        right = ("live", ((MAIN, 1),))
        self.assertEqual(self.judge(right, 1), "live")
        for paper in odd_values() + [
                list(right), ("live", [(MAIN, 1)]), ("live", ([MAIN, 1],)), ("live", ((MAIN, True),)), right + (1,),
                ("live",), ("Live", right[1]), (Odd(), right[1]), ("live", (Odd(),)), ("live", ((MAIN, Odd()),)),
                ("live", ((MAIN, 1), (MAIN, 12))), ("live", None), ("dead", None), ("dead", ((MAIN, 1), None)),
                (["live"], right[1]), ("gone", right[1]), ("dead", {(MAIN, 1): 1})]:
            self.assertIsNone(self.judge(paper, 1))
        self.assertIsNone(self.judge(("gone", self.ways(0)), 0))

    def test_errors(self):
        for function, behind in ((live_paper, ()), (judge_live, (None,))):
            self.refuses_all(NoProgram, odd_values(), function, behind=(None, None, *behind))
            self.refuses_all(NoSpot, odd_values() + [(MAIN, 7)], function, CALLING, behind=(None, *behind))
            self.refuses_all(NoVariable, odd_values() + ["p", "q", "main", "f"], function, CALLING, (MAIN, 0),
                             behind=behind)


class Alike(Told):
    def test_keys(self):
        run = Run(CALLING, [3, 4, 5])
        self.assertEqual(alike_key(CALLING, (3, 4, 5), run.state(0)),
                         (((MAIN, 0, (("y", 0), ("z", 0))),), (3, 4, 5), None))
        self.assertEqual(alike_key(CALLING, [3, 4, 5], run.state(1)),
                         (((MAIN, 1, (("x", 3), ("y", 0), ("z", 0))),), (4, 5), None))
        self.assertEqual(alike_key(CALLING, (3,), run.state(2)),
                         (((MAIN, 1, (("y", 0), ("z", 0))), ("f", 0, (("p", 3), ("q", 0)))), (), None))
        self.assertEqual(alike_key(CALLING, (), run.state(2))[1], ())
        self.assertEqual(alike_key(CALLING, (3, 4), run.state(run.last())), ((), (4,), run.result()))

    def test_values_that_are_not_live_are_not_in_it(self):
        run = Run(BRANCHED, [3])
        self.assertEqual(alike_key(BRANCHED, [3], run.state(4)), (((MAIN, 6, (("x", 3),)),), (), None))
        self.assertEqual(alike_key(BRANCHED, [3], run.state(3)), (((MAIN, 5, (("x", 3),)),), (), None))

    def test_keys_by_chance(self):
        chance = chance_of(1203)
        for _ in range(40):
            run = changed_run(chance, 100)
            for t in range(run.last() + 1):
                self.assertEqual(alike_key(run.program(), run.inputs(), run.state(t)),
                                 key_anew(run.program(), run.inputs(), run.state(t)))

    def test_alike(self):
        one, other = Run(COUNTDOWN, [2]), Run(COUNTDOWN, [5], [(1, 0, "n", 2)])
        self.assertIs(are_alike(one, 1, other, 1), True)
        self.assertIs(are_alike(one, 0, other, 0), False)
        self.assertIs(are_alike(one, 6, Run(COUNTDOWN, [1], [(2, 0, "s", 2)]), 2), True)
        self.assertIs(are_alike(one, 12, other, 12), True)
        self.assertIs(are_alike(one, 12, Run(COUNTDOWN, [3]), Run(COUNTDOWN, [3]).last()), False)
        self.assertIs(are_alike(one, 1, Run(COUNTDOWN, [2, 0]), 1), False)
        self.assertIs(are_alike(one, 12, other, 11), False)

    def test_errors(self):
        run, other = Run(COUNTDOWN, [2]), Run(COUNTDOWN, [1])
        self.refuses_all(NoProgram, odd_values(), alike_key, behind=(None, None))
        self.refuses_all(NoInputs, [None, 5, "", [None], [9973], (True,), [0] * 13], alike_key, COUNTDOWN,
                         behind=(None,))
        self.refuses_all(NoState, odd_values() + [Run(CALLER, [2]).state(3)], alike_key, COUNTDOWN, [2])
        self.refuses_all(NoRun, odd_values(), are_alike, behind=(None, None, None))
        self.refuses_all(NoMoment, odd_values() + [13], are_alike, run, behind=(other, 99))
        self.refuses_all(NoMoment, odd_values() + [9], are_alike, run, 12, other)
        for value in odd_values() + [Run(CALLER, [2])]:
            for function, ahead, behind in ((are_alike, (run, None), (None,)), (first_meeting, (run,), ()),
                                            (first_unlike, (run,), ())):
                self.assertIs(self.told(NoRun, function, *ahead, value, *behind), value)
        for function in (first_meeting, first_unlike):
            self.refuses_all(NoRun, odd_values(), function, behind=(None,))


class Meetings(Told):
    def test_meetings(self):
        one = Run(COUNTDOWN, [2])
        self.assertEqual(first_meeting(one, one), (0, 0))
        self.assertEqual(first_meeting(one, Run(COUNTDOWN, [7], [(1, 0, "n", 2)])), (1, 1))
        self.assertEqual(first_meeting(one, Run(COUNTDOWN, [1], [(2, 0, "s", 2)])), (6, 2))
        self.assertEqual(first_meeting(Run(COUNTDOWN, [1], [(2, 0, "s", 2)]), one), (2, 6))
        self.assertIsNone(first_meeting(one, Run(COUNTDOWN, [3])))
        self.assertIsNone(first_meeting(one, Run(COUNTDOWN, [2, 1])))

    def test_not_ahead_of_the_last_change(self):
        one = Run(COUNTDOWN, [2])
        other = Run(COUNTDOWN, [2], [(5, 0, "s", 2), (7, 0, "n", 1)])
        self.assertEqual(first_meeting(one, other), (7, 7))
        self.assertEqual(first_meeting(other, one), (7, 7))
        late = Run(COUNTDOWN, [2], [(11, 0, "n", 5)])
        self.assertEqual(first_meeting(late, Run(COUNTDOWN, [2], [(9, 0, "n", 0)])), (11, 11))

    def test_at_the_end_alone(self):
        program = plain((("if", "x", 2), ("back", 4), ("out", 1), ("back", 4)))
        self.assertEqual(first_meeting(Run(program), Run(program, (), [(0, 0, "x", 1)])), (2, 3))

    def test_by_chance(self):
        chance = chance_of(1204)
        met = 0
        for _ in range(120):
            one = changed_run(chance, 40)
            other = changed_again(chance, one)
            if other is None or other.last() > 60:
                continue
            lasts = [run.changes()[-1][0] if run.changes() else 0 for run in (one, other)]
            keys = [[key_anew(run.program(), run.inputs(), run.state(t)) for t in range(run.last() + 1)]
                    for run in (one, other)]
            wanted = [(t, u) for t, u in itertools.product(range(lasts[0], one.last() + 1),
                                                           range(lasts[1], other.last() + 1))
                      if keys[0][t] == keys[1][u]]
            told = first_meeting(one, other)
            self.assertEqual(told, min(wanted, default=None))
            if told is None:
                continue
            met += 1
            t, u = told
            self.assertEqual(one.last() - t, other.last() - u)
            self.assertEqual(one.result(), other.result())
            self.assertEqual([one.spot_at(at) for at in range(t, one.last())],
                             [other.spot_at(at) for at in range(u, other.last())])
            self.assertEqual(one.outputs()[len(one.state(t)[3]):], other.outputs()[len(other.state(u)[3]):])
        self.assertGreater(met, 30)

    def test_first_unlike(self):
        one = Run(COUNTDOWN, [2])
        self.assertIsNone(first_unlike(one, one))
        self.assertIsNone(first_unlike(one, Run(COUNTDOWN, [2, 9])))
        self.assertEqual(first_unlike(one, Run(COUNTDOWN, [1])), 7)
        self.assertEqual(first_unlike(one, Run(COUNTDOWN, [0])), 3)
        self.assertEqual(first_unlike(one, Run(COUNTDOWN, [2], [(4, 0, "s", 9)])), 12)
        program = plain((("get", "x"), ("out", "x"), ("if", "x", 4), ("back", 1), ("back", 1)))
        self.assertEqual(first_unlike(Run(program, [3]), Run(program, [4])), 2)
        self.assertEqual(first_unlike(Run(program, [3]), Run(program)), 2)

    def test_one_that_ends_sooner(self):
        program = plain((("get", "x"), ("if", "x", 0), ("back", 1)))
        one, other = Run(program), Run(program, [1])
        self.assertEqual((one.last(), other.last()), (3, 5))
        self.assertEqual(first_unlike(one, other), 2)
        self.assertEqual(first_unlike(other, one), 2)

    def test_first_unlike_by_chance(self):
        chance = chance_of(1208)
        found = set()
        for _ in range(150):
            one = changed_run(chance, 120)
            other = changed_again(chance, one)
            if other is None:
                continue
            told = [[(frames[-1][1:3] if frames else None, outputs, result)
                     for _, frames, _, outputs, result in map(run.state, range(run.last() + 1))]
                    for run in (one, other)]
            wanted = None
            for t in range(max(map(len, told))):
                if told[0][t:t + 1] != told[1][t:t + 1]:
                    wanted = t
                    break
            self.assertEqual(first_unlike(one, other), wanted)
            found.add(wanted)
        self.assertTrue(None in found and len(found) > 15)

    def test_spots_with_the_same_index(self):
        program = Program([("main", (), (("if", "x", 3), ("call", "y", "f", ()), ("back", 0), ("call", "y", "g", ()),
                                         ("back", 0))), ("f", (), (("back", 0),)), ("g", (), (("back", 0),))])
        self.assertEqual(first_unlike(Run(program), Run(program, (), [(0, 0, "x", 1)])), 1)


class Healing(Told):
    def test_healed(self):
        self.assertEqual(healed_at(Run(COUNTDOWN, [2])), 0)
        self.assertEqual(healed_at(Run(COUNTDOWN, [2], [(3, 0, "s", 0)])), 3)
        self.assertEqual(healed_at(Run(COUNTDOWN, [2], [(1, 0, "s", 5)])), 1)
        self.assertEqual(healed_at(Run(COUNTDOWN, [2], [(4, 0, "s", 5), (8, 0, "s", 3)])), 8)
        self.assertIsNone(healed_at(Run(COUNTDOWN, [2], [(4, 0, "s", 5)])))
        self.assertIsNone(healed_at(Run(COUNTDOWN, [2], [(1, 0, "n", 1)])))

    def test_what_was_put_out_stays_unlike(self):
        program = plain((("out", "x"), ("copy", "x", 3), ("back", "x")))
        self.assertEqual(healed_at(Run(program, (), [(0, 0, "x", 9)])), 1)
        self.assertEqual(first_unlike(Run(program, (), [(0, 0, "x", 9)]), Run(program)), 1)

    def test_at_the_end_alone(self):
        program = plain((("if", "x", 2), ("back", 4), ("back", 4)))
        self.assertEqual(healed_at(Run(program, (), [(0, 0, "x", 9)])), 2)

    def test_a_branch_behind_the_end_of_its_main_run(self):
        program = plain((("get", "x"), ("if", "x", 3), ("back", 7), ("copy", "y", 1), ("copy", "y", 2), ("back", 7)))
        self.assertIsNone(healed_at(Run(program, [0], [(1, 0, "x", 1), (4, 0, "y", 3)])))

    def test_a_change_of_what_is_not_live_is_healed_at_once(self):
        chance = chance_of(1205)
        many = 0
        for _ in range(60):
            main = random_run(chance, 100)
            for t in range(main.last()):
                frames = main.state(t)[1]
                for at, frame in enumerate(frames, 1):
                    live = (live_anew if at == len(frames) else beneath_anew)(main.program(), frame[1:3])
                    for name in main.program().variables_of(frame[1]):
                        if name not in live and many < 400:
                            branch = Run(main.program(), main.inputs(), [(t, frame[0], name, 77)])
                            self.assertEqual(healed_at(branch), t)
                            many += 1
        self.assertEqual(many, 400)

    def test_by_chance(self):
        chance = chance_of(1206)
        told = []
        for _ in range(100):
            run = changed_run(chance, 80)
            try:
                main = Run(run.program(), run.inputs())
            except TooMany:
                self.assertIn(self.most(healed_at, run), (600, 10))
                continue
            first = run.changes()[-1][0] if run.changes() else 0
            wanted = [t for t in range(first, min(run.last(), main.last()) + 1)
                      if key_anew(run.program(), run.inputs(), run.state(t))
                      == key_anew(run.program(), run.inputs(), main.state(t))]
            self.assertEqual(healed_at(run), min(wanted, default=None))
            told.append(healed_at(run))
        self.assertTrue(None in told and any(told))

    def test_errors(self):
        self.refuses_all(NoRun, odd_values(), healed_at)
        self.assertEqual(self.most(healed_at, Run(ENDLESS, (), [(0, 0, "x", 1)])), 600)


class Awaited(Told):
    def test_awaited(self):
        run = Run(BRANCHED, [3])
        self.assertEqual(awaited_cells(run, 0), [])
        self.assertEqual(awaited_cells(run, 1), [(0, "x")])
        self.assertEqual(awaited_cells(run, 2), [(0, "x")])
        self.assertEqual(awaited_cells(Run(BRANCHED), 2), [(0, "x"), (0, "y")])
        self.assertEqual(awaited_cells(run, run.last()), [])

    def test_through_calls(self):
        run = Run(CALLING, [3])
        self.assertEqual(awaited_cells(run, 2), [(0, "y"), (0, "z"), (2, "p"), (2, "q")])
        self.assertEqual(awaited_cells(run, 4), [(0, "y"), (0, "z")])
        # Only the frames that stand count, also where a later frame reads a variable that nothing wrote.
        program = Program([("main", (), (("call", "x", "f", ()), ("back", "x"))), ("f", (), (("back", "y"),))])
        self.assertEqual(awaited_cells(Run(program), 0), [])
        self.assertEqual(awaited_cells(Run(program), 1), [(1, "y")])

    def test_changes_are_no_writes(self):
        run = Run(COUNTDOWN, [2], [(3, 0, "n", 2)])
        self.assertEqual(awaited_cells(run, 2), [(0, "n"), (0, "s")])
        program = plain((("copy", "y", 1), ("out", "x"), ("back", 0)))
        self.assertEqual(awaited_cells(Run(program, (), [(1, 0, "x", 4)]), 0), [(0, "x")])

    def test_by_chance(self):
        chance = chance_of(1207)
        changed = 0
        for _ in range(60):
            run = changed_run(chance, 80)
            for t in range(run.last() + 1):
                told = awaited_cells(run, t)
                cells = [(frame[0], name) for frame in run.state(t)[1]
                         for name in run.program().variables_of(frame[1])]
                wanted = []
                for cell in cells:
                    for step in range(t, run.last()):
                        frames = run.state(step)[1]
                        row = run.program().row(run.spot_at(step))
                        if frames[-1][0] == cell[0] and cell[1] in names_in(row):
                            wanted.append(cell)
                            break
                        if row[0] == "back" and len(frames) > 1:
                            caller = run.program().row(frames[-2][1:3])
                            if cell == (frames[-2][0], caller[1]):
                                break
                        if row[0] in ("set", "copy", "get") and cell == (frames[-1][0], row[1]):
                            break
                self.assertEqual(told, sorted(wanted))
                last = run.changes()[-1][0] if run.changes() else 0
                if t < last or len(run.changes()) == 8 or t == run.last() or changed > 300:
                    continue
                for cell in [cell for cell in cells if cell not in told][:1]:
                    other = Run(run.program(), run.inputs(), (*run.changes(), (t, *cell, chance.randrange(9973))))
                    self.assertIsNone(first_unlike(run, other))
                    changed += 1
        self.assertGreater(changed, 200)

    def test_errors(self):
        self.refuses_all(NoRun, odd_values(), awaited_cells, behind=(None,))
        self.refuses_all(NoMoment, odd_values() + [13], awaited_cells, Run(COUNTDOWN, [2]))


if __name__ == "__main__":
    unittest.main()
