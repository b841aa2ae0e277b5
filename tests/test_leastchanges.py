"""Promise [20], menus of changes: sets, wishes, least sets, groups and blame; of [0.2] (i)."""

import unittest
from itertools import combinations

from plainmoment.apart import are_apart
from plainmoment.causes import askings_of, reads_of
from plainmoment.errors import NoChanges, NoCount, NoInputs, NoMenu, NoProgram, NoRun, NoWish, TooMany
from plainmoment.leastchanges import (apart_groups, blame_of, does_hold, is_least, is_wish, least_sets, run_of,
                                      whole_blame)
from plainmoment.programs import Program
from plainmoment.runs import Run
from tests.samples import COUNTDOWN, Odd, Told, chance_of, changed_run, odd_values, plain, random_run

TWO = plain((("get", "x"), ("get", "y"), ("set", "x", "mul", "x", 2), ("set", "y", "mul", "y", 3), ("if", "z", 6),
             ("out", "x"), ("out", "y"), ("back", "x")))
# All that is got is in the result together.
MIXED = plain((("get", "x"), ("get", "y"), ("get", "z"), ("set", "s", "mul", "x", "y"), ("set", "s", "add", "s", "z"),
               ("if", "x", 7), ("set", "s", "sub", "s", "y"), ("out", "s"), ("back", "s")))
LOOP = plain((("if", "x", 2), ("back", 1), ("if", "y", 0), ("back", 2)))
ENDLESS = plain((("if", "x", 2), ("go", 0), ("back", 1)))


def holds_anew(run, wish):
    spots = {run.spot_at(t) for t in range(run.last())}
    if wish[0] == "output":
        return list(run.outputs()[wish[1]:wish[1] + 1]) == [wish[2]]
    return {"result": run.result() == wish[1], "done": wish[1] in spots, "never": wish[1] not in spots}[wish[0]]


def run_anew(program, inputs, menu, lot):
    changes = [told[2] for told in sorted((menu[at][0], at, menu[at]) for at in lot)]
    try:
        return Run(program, inputs, changes)
    except (NoChanges, TooMany):
        return None


def groups_anew(program, inputs, menu):
    groups = [(at,) for at in range(len(menu))]
    while True:
        pairs = [(one, other) for one in sorted(groups) for other in sorted(groups) if one < other]
        for one, other in pairs:
            runs = [run_anew(program, inputs, menu, group) for group in ((), one, other)]
            if None in [run and 1 for run in runs] or not are_apart(*runs[1:]):
                groups = [group for group in groups if group not in (one, other)] + [tuple(sorted(one + other))]
                break
        else:
            return sorted(groups)


def menu_by_chance(chance, run, most=5):
    menu = []
    for _ in range(chance.randrange(most + 1)):
        t = chance.randrange(run.last())
        frame = chance.choice(run.state(t)[1])
        names = run.program().variables_of(frame[1]) or ["x"]
        change = (t, frame[0], chance.choice(names), chance.choice((0, 1, 2, chance.randrange(9973))))
        menu.append(change if chance.random() < 0.9 else (600, 600, "x", 1))
    return menu


class Sets(Told):
    def test_ordinary(self):
        menu = [(3, 0, "x", 1), (1, 0, "x", 6), (3, 0, "y", 2), (1, 0, "x", 7)]
        self.assertEqual(run_of(TWO, [5, 7], menu, ()), Run(TWO, [5, 7]))
        self.assertEqual(run_of(TWO, [5, 7], tuple(menu), (0, 1, 2, 3)).changes(), (menu[1], menu[3], menu[0], menu[2]))
        self.assertEqual(run_of(TWO, [5, 7], [], ()), Run(TWO, [5, 7]))

    def test_sets_without_a_run(self):
        self.assertIsNone(run_of(TWO, [], [(8, 0, "x", 1)], (0,)))
        self.assertIsNone(run_of(TWO, [], [(1, 0, "q", 1)], (0,)))
        self.assertIsNone(run_of(TWO, [], [(1, 2, "x", 1)], (0,)))
        self.assertIsNone(run_of(TWO, [], [(600, 0, "x", 1)], (0,)))
        menu = [(0, 0, "x", 1), (0, 0, "y", 1), (2, 0, "y", 0)]
        self.assertIsNone(run_of(LOOP, [], menu, (0, 1)))
        self.assertIsNotNone(run_of(LOOP, [], menu, (0, 1, 2)))
        self.assertIsNone(run_of(ENDLESS, [], [(0, 0, "x", 1)], ()))
        self.assertIsNotNone(run_of(ENDLESS, [], [(0, 0, "x", 1)], (0,)))
        deep = Program([("main", (), (("get", "n"), ("call", "x", "f", ("n",)), ("back", "x"))),
                        ("f", ("n",), (("if", "n", 2), ("back", 7), ("set", "m", "sub", "n", 1),
                                       ("call", "x", "f", ("m",)), ("back", "x")))])
        self.assertIsNone(run_of(deep, [1], [(1, 0, "n", 50)], (0,)))

    def test_errors(self):
        menu = [(3, 0, "x", 1), (1, 0, "x", 6)]
        for function, behind in ((run_of, (None,)), (least_sets, (None,)), (is_least, (None, None)), (apart_groups, ())):
            self.refuses_all(NoProgram, odd_values(), function, behind=(None, None, *behind))
            inputs = [value for value in odd_values() if not isinstance(value, (list, tuple))]
            self.refuses_all(NoInputs, [*inputs, 13 * [0], [Odd()]], function, TWO, behind=(None, *behind))
            for value in odd_values():
                if not isinstance(value, (list, tuple)):
                    self.assertIsNone(self.told(NoMenu, function, TWO, [], value, *behind))
                elif value:
                    self.assertEqual(self.told(NoMenu, function, TWO, [], value, *behind), 0)
            self.assertIsNone(self.told(NoMenu, function, TWO, [], 9 * menu[:1], *behind))
            for wrong in ((601, 0, "x", 1), (0, 601, "x", 1), (0, 0, "X", 1), (0, 0, "x", 9973), (0, 0, "x"),
                          [0, 0, "x", 1], (-1, 0, "x", 1), (0, 0, "x", True), (0, 0, "x", 1, 1)):
                self.assertEqual(self.told(NoMenu, function, TWO, [], [*menu, wrong, None], *behind), 2)
        wrong = [value for value in odd_values() if not isinstance(value, tuple) or len(value) > 0]
        wrong = [value for value in wrong if value.__class__ is not tuple or value[0].__class__ is not int]
        self.refuses_all(NoMenu, [*wrong, (0, 0), (1, 0), (2,), (-1,), [0], (0, True), (Odd(),)], run_of, TWO, [], menu)


class Wishes(Told):
    def test_forms(self):
        for wish in (("output", 0, 0), ("output", 599, 9972), ("result", 0), ("done", ("main", 7)), ("never", ("main", 0))):
            self.assertIs(is_wish(TWO, wish), True)
        self.likes_none(odd_values() + [
            ("output", 600, 0), ("output", -1, 0), ("output", 0, 9973), ("output", 0), ("output", True, 0),
            ("output", 0, True), ("output", 0, 0, 0), ("result",), ("result", -1), ("result", None), ("result", 0, 0),
            ("done", ("main", 8)), ("done", ["main", 0]), ("never", ("f", 0)), ("never", "main"), ("done", "main", 0),
            ["result", 0], ("wish", 0), ("doing", ("main", 0)), ("outputs", 0, 0), (Odd(), 0), ("output", Odd(), 0), ("output", 0, Odd()), ("result", Odd()),
            ("done", Odd()), ("done", ("main", Odd()))], is_wish, TWO)
        self.refuses_all(NoProgram, odd_values(), is_wish, behind=(None,))

    def test_holding(self):
        run = Run(TWO, [5, 7])
        for wish, held in ((("output", 0, 10), True), (("output", 1, 21), True), (("output", 1, 10), False),
                           (("output", 2, 10), False), (("result", 10), True), (("result", 21), False),
                           (("done", ("main", 5)), True), (("never", ("main", 5)), False)):
            self.assertIs(does_hold(run, wish), held)
        changed = Run(TWO, [5, 7], [(4, 0, "z", 1)])
        self.assertIs(does_hold(changed, ("done", ("main", 5))), False)
        self.assertIs(does_hold(changed, ("never", ("main", 5))), True)
        self.refuses_all(NoRun, odd_values(), does_hold, behind=(None,))
        self.refuses_all(NoWish, [*odd_values(), ("done", ("main", 8))], does_hold, run)


class Least(Told):
    MENU = [(3, 0, "x", 4), (4, 0, "y", 9), (0, 0, "x", 9), (4, 0, "z", 1), (2, 0, "x", 2)]

    def test_ordinary(self):
        self.assertEqual(least_sets(TWO, [5, 7], self.MENU, ("result", 10)), [()])
        self.assertEqual(least_sets(TWO, [5, 7], self.MENU, ("result", 4)), [(0,), (4,)])
        self.assertEqual(least_sets(TWO, [5, 7], self.MENU, ("result", 5)), [])
        self.assertEqual(least_sets(TWO, [5, 7], self.MENU, ("output", 0, 9)), [(1, 3)])
        self.assertEqual(least_sets(TWO, [5, 7], self.MENU, ("output", 0, 21)), [(3,)])
        self.assertEqual(least_sets(TWO, [5, 7], self.MENU, ("never", ("main", 5))), [(3,)])
        self.assertEqual(least_sets(TWO, [5, 7], [], ("result", 10)), [()])

    def test_a_set_that_fulfils_may_have_a_bigger_one_that_does_not(self):
        menu = [(3, 0, "x", 4), (3, 0, "x", 5), (5, 0, "x", 4)]
        self.assertEqual(least_sets(TWO, [5, 7], menu, ("output", 0, 4)), [(0,), (2,)])
        self.assertIs(is_least(TWO, [5, 7], menu, ("output", 0, 4), (1, 2)), False)
        self.assertEqual(least_sets(TWO, [5, 7], [(3, 0, "x", 10), (3, 0, "x", 5)], ("output", 0, 10)), [()])

    def test_without_a_plain_run(self):
        self.assertEqual(least_sets(ENDLESS, [], [(0, 0, "x", 1), (2, 0, "x", 1)], ("result", 1)), [(0,), (1,)])

    def test_is_least(self):
        for value in ((0,), (4,)):
            self.assertIs(is_least(TWO, [5, 7], self.MENU, ("result", 4), value), True)
        self.likes_none([value for value in odd_values()] + [(0, 4), (1,), (4, 0), [0], (0, 1), (5,), (False,), (Odd(),)],
                        is_least, TWO, [5, 7], self.MENU, ("result", 4))
        self.assertIs(is_least(TWO, [5, 7], self.MENU, ("result", 10), ()), True)

    def test_by_chance_held_against_all_sets(self):
        chance = chance_of(204)
        bigger = 0
        for _ in range(60):
            run = random_run(chance, 40) if chance.random() < 0.5 else Run(MIXED, [chance.randrange(3), 2, 3])
            program, inputs = run.program(), run.inputs()
            menu = menu_by_chance(chance, run)
            lots = [lot for size in range(len(menu) + 1) for lot in combinations(range(len(menu)), size)]
            runs = {lot: run_anew(program, inputs, menu, lot) for lot in lots}
            for lot in lots:
                one = run_of(program, inputs, menu, lot)
                self.assertTrue(one == runs[lot] if runs[lot] is not None else one is None)
            ended = [one for one in runs.values() if one is not None]
            wishes = [("result", ended[-1].result()), ("result", chance.choice(ended).result()),
                      (chance.choice(("done", "never")), chance.choice(program.spots()))]
            outputs = [("output", at, value) for one in ended for at, value in enumerate(one.outputs())]
            for wish in wishes + chance.sample(outputs, min(len(outputs), 2)):
                good = [lot for lot in lots if runs[lot] is not None and holds_anew(runs[lot], wish)]
                least = [lot for lot in good if not any(set(other) < set(lot) for other in good)]
                self.assertEqual(least_sets(program, inputs, menu, wish), least)
                for lot in lots:
                    self.assertIs(is_least(program, inputs, menu, wish, lot), lot in least)
                bigger += any(len(lot) > 1 for lot in least)
        self.assertGreater(bigger, 0)

    def test_no_wish(self):
        for function, behind in ((least_sets, ()), (is_least, (None,))):
            self.refuses_all(NoWish, [*odd_values(), ("done", ("main", 8))], function, TWO, [], [], behind=behind)


class Groups(Told):
    def test_ordinary(self):
        self.assertEqual(apart_groups(TWO, [5, 7], []), [])
        self.assertEqual(apart_groups(TWO, [5, 7], [(1, 0, "x", 1), (2, 0, "y", 1), (0, 0, "x", 4), (7, 0, "y", 9)]),
                         [(0,), (1, 3), (2,)])
        self.assertEqual(apart_groups(TWO, [5, 7], [(1, 0, "x", 1), (2, 0, "y", 1), (3, 0, "x", 4)]), [(0, 2), (1,)])

    def test_what_has_no_run_is_apart_from_none(self):
        self.assertEqual(apart_groups(TWO, [5, 7], [(9, 0, "x", 1)]), [(0,)])
        self.assertEqual(apart_groups(TWO, [5, 7], [(1, 0, "x", 1), (2, 0, "y", 1), (9, 0, "x", 1)]), [(0, 1, 2)])
        self.assertEqual(apart_groups(TWO, [5, 7], [(9, 0, "x", 1), (1, 0, "x", 5)]), [(0, 1)])

    def test_none_is_apart_without_a_plain_run(self):
        self.assertEqual(apart_groups(ENDLESS, [], [(0, 0, "x", 1), (2, 0, "x", 1), (0, 0, "x", 1)]), [(0, 1, 2)])
        self.assertEqual(apart_groups(ENDLESS, [], [(0, 0, "x", 1)]), [(0,)])

    def test_by_chance(self):
        chance = chance_of(205)
        sizes = set()
        for _ in range(60):
            run = random_run(chance, 40)
            menu = menu_by_chance(chance, run, 6)
            groups = apart_groups(run.program(), run.inputs(), menu)
            self.assertEqual(groups, groups_anew(run.program(), run.inputs(), menu))
            sizes |= {(len(groups), len(group)) for group in groups}
        self.assertGreater(len(sizes), 6)

    def test_eight_at_once(self):
        menu = [(t, 0, name, t) for t in (1, 2, 3, 4) for name in ("x", "y")]
        self.assertEqual(sum(len(group) for group in apart_groups(TWO, [5, 7], menu)), 8)


class Blame(Told):
    def test_ordinary(self):
        run = Run(TWO, [5, 7])
        self.assertEqual([blame_of(run, index) for index in (0, 1, None)], [[0], [1], [0]])
        self.assertEqual([whole_blame(run, index) for index in (0, 1, None)], [[0], [1], [0]])

    def test_ifs(self):
        run = Run(COUNTDOWN, [3])
        self.assertEqual((blame_of(run, None), whole_blame(run, None)), ([0], [0]))
        self.assertEqual((blame_of(Run(COUNTDOWN, [0]), None), whole_blame(Run(COUNTDOWN, [0]), None)), ([], [0]))

    def test_ifs_ahead_alone(self):
        program = plain((("get", "x"), ("get", "y"), ("out", 7), ("if", "x", 4), ("out", "y"), ("if", "y", 6),
                         ("back", 9)))
        run = Run(program, [1])
        self.assertEqual([blame_of(run, index) for index in (0, 1, None)], [[], [1], []])
        self.assertEqual([whole_blame(run, index) for index in (0, 1, None)], [[], [0, 1], [0, 1]])

    def test_askings_beyond_the_inputs(self):
        program = plain((("get", "x"), ("get", "x"), ("get", "x"), ("out", "x"), ("back", 1)))
        self.assertEqual(blame_of(Run(program, [4]), 0), [2])

    def test_each_output_by_its_own_step(self):
        program = plain((("get", "x"), ("out", "x"), ("get", "x"), ("out", "x"), ("back", "x")))
        run = Run(program, [4, 4])
        self.assertEqual([blame_of(run, index) for index in (0, 1, None)], [[0], [1], [1]])

    def test_by_chance(self):
        chance = chance_of(206)
        blamed = 0
        for _ in range(60):
            run = changed_run(chance, 80) if chance.random() < 0.3 else random_run(chance, 80)
            outs = [t for t in range(run.last()) if run.program().row(run.spot_at(t))[0] == "out"]
            ifs = [t for t in range(run.last()) if run.program().row(run.spot_at(t))[0] == "if"]
            self.assertEqual(len(outs), len(run.outputs()))
            for index, step in [*enumerate(outs), (None, run.last() - 1)][-4:]:
                asked = {number for cell in reads_of(run, step) for number in askings_of(run, step, cell)}
                whole = asked | {number for t in ifs if t < step for cell in reads_of(run, t)
                                 for number in askings_of(run, t, cell)}
                self.assertEqual(blame_of(run, index), sorted(asked))
                self.assertEqual(whole_blame(run, index), sorted(whole))
                blamed += len(whole) > len(asked) > 0
        self.assertGreater(blamed, 0)

    def test_inputs_that_are_not_blamed_can_be_others(self):
        chance = chance_of(207)
        done = 0
        while done < 80:
            run = random_run(chance, 80)
            whole = whole_blame(run, None)
            inputs = [value if at in whole else chance.randrange(9973) for at, value in
                      enumerate([*run.inputs(), 0, 0, 0])]
            other = Run(run.program(), inputs)
            self.assertEqual(other.result(), run.result())
            self.assertEqual([other.spot_at(t) for t in range(other.last())], [run.spot_at(t) for t in range(run.last())])
            for index in range(len(run.outputs()))[:3]:
                blame = blame_of(run, index)
                same = Run(run.program(), [value if at in {*blame, *whole} else 1 for at, value in
                                           enumerate([*run.inputs(), 0, 0, 0])])
                self.assertEqual(same.outputs()[index], run.outputs()[index])
            done += list(inputs) != [*run.inputs(), 0, 0, 0]

    def test_errors(self):
        run = Run(TWO, [5, 7])
        for function in (blame_of, whole_blame):
            self.refuses_all(NoRun, odd_values(), function, behind=(Odd(),))
            wrong = [value for value in odd_values() if value is not None]
            self.refuses_all(NoCount, [*wrong, 2, -1], function, run)


if __name__ == "__main__":
    unittest.main()
