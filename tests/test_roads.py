"""Promise [17], roads: settings, legs, what is gone and shown, idle legs, and where roads part; of [0.2] (h)."""

import unittest

from plainmoment.edits import Edit
from plainmoment.errors import NoEdit, NoInputs, NoMade, NoMoment, NoProgram, NoRoad, NoSetting, TooMany
from plainmoment.maderuns import Made
from plainmoment.programs import Program
from plainmoment.roads import Road, Setting, first_parting, idle_legs, last_parting
from plainmoment.runs import Run
from tests.samples import (Odd, Told, chance_of, gone_anew, odd_values, plain, random_leg, random_legs, random_setting,
                           stage_anew, view_anew)

OLD = plain((("get", "x"), ("set", "y", "add", "x", 1), ("set", "x", "mul", "y", 2), ("out", "x"), ("back", "x")))
NEW = plain((("get", "x"), ("set", "y", "add", "x", 1), ("set", "x", "mul", "y", 2), ("copy", "z", 7), ("out", "x"),
             ("back", "x")))
ROWS = ((0, 0), (1, 1), (2, 2), (3, 4), (4, 5))
EDIT = Edit(OLD, NEW, [(("main", one), ("main", other)) for one, other in ROWS])
BACK = Edit(NEW, OLD, [(("main", other), ("main", one)) for one, other in ROWS])
SETTING = Setting(OLD, [5], edits=[EDIT, BACK, Edit.same(OLD)])

# y is not live at rows 2 and 3, and is written by step 3.
LATE = plain((("get", "x"), ("copy", "y", 1), ("out", "x"), ("copy", "y", "x"), ("out", "y"), ("back", "y")))
LATER = Setting(LATE, [5], edits=[Edit.same(LATE)])

LOOP = plain((("get", "x"), ("if", "x", 1), ("back", "x")))
STRETCH = (("main", 1, 2), (("set", "r0", "add", "x", 1), ("set", "x", "mul", "r0", 2), ("copy", "y", "r0")),
           (0, 1, 2, 2))

# Row 1 of main is a call; f has a frame of its own, in which q is not live from row 1 on.
DEEP = Program([
    ("main", (), (("copy", "k", 4), ("call", "r", "f", ("k",)), ("out", "r"), ("back", "k"))),
    ("f", ("p",), (("set", "q", "add", "p", 1), ("out", "p"), ("copy", "q", 2), ("back", "q"))),
])


def change(t, variable, value, born=0):
    return ("change", t, born, variable, value)


class Settings(Told):
    def test_ordinary(self):
        setting = Setting(OLD, [5], stretches=[STRETCH], edits=(EDIT, BACK))
        self.assertEqual((setting.program(), setting.inputs(), setting.edits()), (OLD, (5,), (EDIT, BACK)))
        self.assertEqual(setting.code(), Made(OLD, [STRETCH]))
        self.assertEqual(setting.main_run(), Run(OLD, [5]))
        bare = Setting(program=OLD)
        self.assertEqual((bare.inputs(), bare.edits(), bare.code()), ((), (), Made(OLD)))

    def test_edits_may_lead_from_any_program(self):
        self.assertEqual(len(Setting(LATE, (), edits=4 * [EDIT]).edits()), 4)

    def test_equal(self):
        one = Setting(OLD, [5], stretches=[STRETCH], edits=[EDIT])
        self.assertTrue(one == Setting(OLD, (5,), stretches=(STRETCH,), edits=(EDIT,)))
        for other in (Setting(NEW, [5], edits=[EDIT]), Setting(OLD, [4], stretches=[STRETCH], edits=[EDIT]),
                      Setting(OLD, [5], edits=[EDIT]), Setting(OLD, [5], stretches=[STRETCH]),
                      Setting(OLD, [5], stretches=[STRETCH], edits=[BACK]), None, OLD):
            self.assertFalse(one == other)
        self.assertFalse(Setting(OLD, edits=[EDIT, BACK]) == Setting(OLD, edits=[BACK, EDIT]))

    def test_copies(self):
        inputs, mades, edits = [5], [STRETCH], [EDIT]
        setting = Setting(OLD, inputs, stretches=mades, edits=edits)
        inputs.append(1)
        mades.clear()
        edits.append(BACK)
        self.assertTrue(setting == Setting(OLD, [5], stretches=[STRETCH], edits=[EDIT]))

    def test_errors(self):
        self.refuses_all(NoProgram, odd_values(), Setting, behind=(None,))
        wrong = [value for value in odd_values() if not isinstance(value, (list, tuple))]
        self.refuses_all(NoInputs, [*wrong, [True], (9973,), ["a"], [Odd()], 13 * [1]], Setting, OLD)
        self.assertIsNone(self.told(NoMade, Setting, OLD, [], stretches=None, edits=None))
        self.assertEqual(self.told(NoMade, Setting, OLD, [], stretches=[STRETCH, STRETCH], edits=None), 1)
        wrong = (STRETCH[0], STRETCH[1][:1] * 3, STRETCH[2])
        self.assertEqual(self.told(NoMade, Setting, OLD, [], stretches=[wrong], edits=None), 0)
        for value in odd_values():
            if not isinstance(value, (list, tuple)):
                self.assertIsNone(self.told(NoEdit, Setting, OLD, [], edits=value))
            elif value:
                self.assertEqual(self.told(NoEdit, Setting, OLD, [], edits=value), 0)
        self.assertIsNone(self.told(NoEdit, Setting, OLD, [], edits=5 * [EDIT]))
        self.assertIsNone(self.told(NoEdit, Setting, OLD, [], edits=5 * [None]))
        self.assertEqual(self.told(NoEdit, Setting, LOOP, [1], edits=[EDIT, OLD, None]), 1)
        self.assertEqual(self.most(Setting, LOOP, [1], edits=[EDIT]), 600)
        with self.assertRaises(TypeError):
            Setting(OLD, [], [], [])


class Roads(Told):
    def test_no_legs(self):
        road = Road(SETTING)
        self.assertEqual((road.legs(), road.run(), road.floor(), road.ahead()), ((), Run(OLD, [5]), 0, None))
        self.assertTrue(road.setting() == SETTING)
        self.assertEqual(road.gone_at(3), [])
        self.assertEqual(road.view(0), (0, ((0, "main", 0, (("x", 0), ("y", 0))),), 0, (), None))
        self.assertEqual(road.view(5), (5, (), 1, (12,), 12))

    def test_change_legs(self):
        legs = (change(1, "x", 9), change(1, "y", 3), change(3, "x", 2))
        road = Road(SETTING, list(legs))
        self.assertEqual(road.legs(), legs)
        self.assertEqual(road.run(), Run(OLD, [5], [leg[1:] for leg in legs]))
        self.assertEqual((road.floor(), road.gone_at(1), road.ahead()), (0, [], None))
        self.assertEqual(road.view(3)[1], ((0, "main", 3, (("x", 2), ("y", 10))),))

    def test_change_legs_that_may_not_stand(self):
        for legs, index in (([change(3, "x", 1), change(2, "x", 1)], 1), ([change(5, "x", 1)], 0),
                            ([change(6, "x", 1)], 0), ([change(1, "z", 1)], 0), ([change(1, "x", 1, 2)], 0),
                            ([change(0, "x", 1), change(1, "x", 9973)], 1), ([change(601, "x", 1)], 0),
                            ([change(2, "x", 1), change(2, "q", 1), None], 1)):
            self.assertEqual(self.told(NoRoad, Road, SETTING, legs), index)

    def test_land_legs(self):
        road = Road(SETTING, [("land", 3, 0)])
        self.assertEqual((road.run(), road.floor(), road.ahead()), (Run(NEW, [5]), 4, ((), 3)))
        self.assertEqual(road.gone_at(4), [(0, "y"), (0, "z")])
        self.assertEqual(road.view(4), (4, ((0, "main", 4, (("x", 12), ("y", None), ("z", None))),), 1, (), None))
        self.assertEqual(road.gone_at(6), [])
        self.assertEqual(road.view(6), (6, (), 1, (12,), 12))
        there = Road(SETTING, [("land", 3, 0), ("land", 5, 1)])
        self.assertEqual((there.run(), there.floor(), there.ahead()), (Run(OLD, [5]), 4, ((("land", 3, 0),), 5)))
        self.assertEqual(there.gone_at(4), [(0, "y")])

    def test_land_legs_that_may_not_stand(self):
        for legs, index in (([("land", 6, 0)], 0), ([("land", -1, 0)], 0), ([("land", 3, 1)], 0), ([("land", 3, 3)], 0),
                            ([("land", 3, -1)], 0), ([("land", 3, True)], 0), ([("land", True, 0)], 0),
                            ([("land", 3, 0), ("land", 3, 1)], 1), ([("land", 3, 0), ("land", 4, 0)], 1),
                            ([("land", 3, 0), change(3, "x", 1)], 1),
                            ([change(3, "x", 1), ("land", 2, 0)], 1), ([change(2, "y", 1), ("land", 2, 0)], 1)):
            self.assertEqual(self.told(NoRoad, Road, SETTING, legs), index, legs)

    def test_a_landing_behind_changes_that_is_right(self):
        road = Road(SETTING, [change(1, "x", 9), change(1, "x", 5), ("land", 1, 2)])
        self.assertEqual((road.run(), road.floor()), (Run(OLD, [5]), 1))
        # Something was changed, so the identity does not bring back what is not live there.
        self.assertEqual(road.gone_at(1), [(0, "y")])
        self.assertEqual(Road(SETTING, [("land", 1, 2)]).gone_at(1), [])

    def test_the_landing_must_be_right_for_what_is_gone(self):
        # Behind the first landing, y is gone, and told again from the moment 4 on; it is live from 4 on.
        legs = [change(2, "y", 9), ("land", 2, 0)]
        for t, many in ((2, [(0, "y")]), (3, [(0, "y")]), (4, []), (5, [])):
            self.assertEqual(Road(LATER, legs).gone_at(t), many)
            self.assertEqual(Road(LATER, [*legs, ("land", t, 0)]).floor(), t)

    def test_what_is_gone_hinders_a_landing_that_reads_it(self):
        reads = plain((("copy", "y", 2), ("out", 3), ("back", "y")))
        dull = plain((("copy", "y", 2), ("out", 3), ("back", 2)))
        rows = [(spot, spot) for spot in reads.spots()]
        setting = Setting(reads, edits=[Edit(reads, dull, rows), Edit(dull, reads, rows)])
        self.assertEqual(Road(setting, [("land", 1, 0)]).gone_at(1), [(0, "y")])
        self.assertEqual(self.told(NoRoad, Road, setting, [("land", 1, 0), ("land", 1, 1)]), 1)
        self.assertEqual(Road(setting, [("land", 0, 0), ("land", 1, 1)]).floor(), 1)
        # A change writes it, and it is of the value that the other run has there, or not.
        self.assertEqual(Road(setting, [("land", 1, 0), change(1, "y", 2), ("land", 1, 1)]).floor(), 1)
        self.assertEqual(self.told(NoRoad, Road, setting, [("land", 1, 0), change(1, "y", 3), ("land", 1, 1)]), 2)

    def test_gone_until_a_step_or_a_change_writes_it(self):
        legs = [change(2, "y", 9), ("land", 2, 0)]
        road = Road(LATER, [*legs, change(3, "y", 1)])
        self.assertEqual([road.gone_at(t) for t in (2, 3, 4)], [[(0, "y")], [], []])
        self.assertEqual(Road(LATER, [*legs, change(3, "x", 1)]).gone_at(3), [(0, "y")])
        self.assertEqual(road.view(2)[1][0][3], (("x", 5), ("y", None)))
        self.assertEqual(road.view(3)[1][0][3], (("x", 5), ("y", 1)))

    def test_frames_above_and_beneath(self):
        setting = Setting(DEEP, edits=[Edit.same(DEEP)])
        road = Road(setting, [change(3, "q", 8, 2), ("land", 3, 0)])
        self.assertEqual((road.floor(), road.gone_at(3)), (3, [(0, "r"), (2, "q")]))
        self.assertEqual(road.gone_at(4), [(0, "r"), (2, "q")])
        self.assertEqual(road.gone_at(5), [(0, "r")])
        self.assertEqual(road.gone_at(6), [])
        self.assertEqual(road.view(4)[1], ((0, "main", 1, (("k", 4), ("r", None))),
                                           (2, "f", 2, (("p", 4), ("q", None)))))

    def test_eight_legs(self):
        legs = [change(t // 2, "x", t) for t in range(8)]
        self.assertEqual(len(Road(SETTING, legs).legs()), 8)
        self.assertIsNone(self.told(NoRoad, Road, SETTING, [*legs, change(4, "x", 1)]))
        legs = [("land", 0, 2)] * 7
        self.assertEqual(Road(SETTING, [*legs, ("land", 0, 0)]).floor(), 0)
        # Changes ahead of a land leg do not count for the run behind it.
        road = Road(LATER, [*(4 * [change(2, "y", 2)]), ("land", 2, 0), *(3 * [change(2, "y", 4)])])
        self.assertEqual(len(road.run().changes()), 3)

    def test_no_legs_at_all(self):
        for value in odd_values():
            if not isinstance(value, (list, tuple)):
                self.assertIsNone(self.told(NoRoad, Road, SETTING, value))
            elif value:
                self.assertEqual(self.told(NoRoad, Road, SETTING, value), 0)
        for value in odd_values():
            self.assertEqual(self.told(NoRoad, Road, SETTING, [change(0, "x", 1), value]), 1)
        for leg in (list(change(0, "x", 1)), (*change(0, "x", 1), 0), change(0, "x", 1)[:4], ("land", 0), ("land", 0, 0, 0),
                    ("lands", 0, 0), (Odd(), 0, 0), ("land", Odd(), 0), ("land", 0, Odd()), change(0, Odd(), 1),
                    ("change", 0, "x", 1), change(0, "x", Odd()), change(None, "x", 1), change(Odd(), "x", 1),
                    change(True, "x", 1), change(0, "x", 1, None)):
            self.assertEqual(self.told(NoRoad, Road, SETTING, [leg]), 0)

    def test_too_many_leg_by_leg(self):
        setting = Setting(LOOP, [0], edits=[Edit(LOOP, plain((("go", 0),)), []), Edit(LOOP, LOOP, [])])
        self.assertEqual(self.most(Road, setting, [change(1, "x", 1)]), 600)
        self.assertEqual(self.most(Road, setting, [change(1, "x", 1), change(2, "x", 0)]), 600)
        self.assertEqual(self.most(Road, setting, [change(1, "x", 1), None]), 600)
        self.assertEqual(self.told(NoRoad, Road, setting, [change(1, "y", 1), change(1, "x", 1)]), 0)
        # The own run comes ahead of the landing, but behind what its leg must be.
        self.assertEqual(self.most(Road, setting, [("land", 1, 0)]), 600)
        self.assertEqual(self.told(NoRoad, Road, setting, [("land", 1, 1)]), 0)
        self.assertEqual(self.told(NoRoad, Road, setting, [("land", 4, 0)]), 0)

    def test_ten_frames(self):
        deep = Program([("main", (), (("get", "n"), ("call", "x", "f", ("n",)), ("back", "x"))),
                        ("f", ("n",), (("if", "n", 2), ("back", 7), ("set", "m", "sub", "n", 1),
                                       ("call", "x", "f", ("m",)), ("back", "x")))])
        self.assertEqual(self.most(Road, Setting(deep, [3]), [change(1, "n", 30)]), 10)

    def test_moments(self):
        road = Road(SETTING, [("land", 3, 0)])
        for function in (road.view, road.gone_at):
            self.refuses_all(NoMoment, [*odd_values(), 3, 7], function)

    def test_equal(self):
        road = Road(SETTING, [change(1, "x", 9)])
        self.assertTrue(road == Road(Setting(OLD, (5,), edits=(EDIT, BACK, Edit.same(OLD))), (change(1, "x", 9),)))
        for other in (Road(SETTING), Road(SETTING, [change(1, "x", 8)]), Road(Setting(OLD, [5]), [change(1, "x", 9)]),
                      None, (change(1, "x", 9),)):
            self.assertFalse(road == other)

    def test_copies(self):
        legs = [change(1, "x", 9)]
        road = Road(SETTING, legs)
        legs.append(None)
        road.gone_at(1).append(None)
        self.assertEqual((road.legs(), road.gone_at(1)), ((change(1, "x", 9),), []))

    def test_no_setting(self):
        self.refuses_all(NoSetting, [*odd_values(), OLD], Road, behind=(None,))

    def test_by_chance_as_the_document_says(self):
        chance = chance_of(171)
        landed = gone = 0
        for _ in range(120):
            setting = random_setting(chance)
            legs, (run, floor, lost) = random_legs(chance, setting)
            road = Road(setting, legs)
            self.assertTrue(road.run() == run and road.floor() == floor and road.legs() == legs)
            for t in range(floor, run.last() + 1):
                self.assertEqual(road.gone_at(t), gone_anew(run, floor, lost, t))
                self.assertEqual(road.view(t), view_anew(run, floor, lost, t))
                gone += bool(road.gone_at(t))
            landed += any(leg[0] == "land" for leg in legs)
            leg = random_leg(chance, setting, run, floor)
            try:
                behind = stage_anew(setting, (*legs, leg))
            except TooMany:
                continue
            if behind is None:
                self.assertEqual(self.told(NoRoad, Road, setting, (*legs, leg)), len(legs))
        self.assertGreater(min(landed, gone), 30)


class Idle(Told):
    def test_ordinary(self):
        self.assertEqual(idle_legs(Road(SETTING)), [])
        self.assertEqual(idle_legs(Road(SETTING, [change(1, "x", 5), change(1, "x", 9), change(1, "x", 9),
                                                  change(2, "y", 10), change(2, "y", 9)])), [0, 2, 3])

    def test_none_ahead_of_a_land_leg(self):
        legs = [change(1, "x", 5), ("land", 1, 2)]
        self.assertEqual(idle_legs(Road(SETTING, legs)), [])
        self.assertEqual(idle_legs(Road(SETTING, [*legs, change(1, "x", 5), change(1, "x", 6)])), [2])

    def test_none_into_a_gone_cell(self):
        legs = [change(2, "y", 9), ("land", 2, 0)]
        self.assertEqual(idle_legs(Road(LATER, [*legs, change(2, "y", 1), change(3, "y", 1)])), [3])
        self.assertEqual(idle_legs(Road(LATER, [*legs, change(4, "y", 5)])), [2])

    def test_without_any_one_a_road_shows_the_same(self):
        chance = chance_of(172)
        done = 0
        while done < 60:
            setting = random_setting(chance)
            legs, (run, floor, lost) = random_legs(chance, setting)
            idle = idle_legs(Road(setting, legs))
            for at, leg in enumerate(legs):
                standing = leg[0] == "change" and all(other[0] == "change" for other in legs[at:])
                before = stage_anew(setting, legs[:at])
                cell = leg[2:4]
                told = standing and cell not in gone_anew(*before, leg[1]) and (
                    before[0].cell_at(leg[1], cell) == leg[4])
                self.assertEqual(at in idle, told)
            for at in idle:
                other = Road(setting, legs[:at] + legs[at + 1:])
                self.assertIsNone(first_parting(Road(setting, legs), other))
                done += 1

    def test_errors(self):
        self.refuses_all(NoRoad, [*odd_values(), SETTING], idle_legs)


class Partings(Told):
    def test_where_one_shows_nothing(self):
        one, other = Road(SETTING), Road(SETTING, [("land", 4, 0)])
        self.assertEqual(other.floor(), 5)
        self.assertEqual((first_parting(one, other), last_parting(one, other)), (0, 6))
        one, other = Road(SETTING, [("land", 1, 2)]), Road(SETTING)
        self.assertEqual((first_parting(one, other), last_parting(one, other)), (0, 0))

    def test_what_is_gone_parts(self):
        one = Road(LATER, [change(2, "y", 9), ("land", 2, 0)])
        self.assertEqual((first_parting(one, Road(LATER)), last_parting(Road(LATER), one)), (0, 3))
        other = Road(LATER, [change(2, "y", 8), ("land", 2, 0)])
        self.assertEqual((first_parting(one, other), last_parting(one, other)), (None, None))
        self.assertEqual(first_parting(one, Road(LATER, [("land", 2, 0)])), 2)

    def test_changes(self):
        one, other = Road(LATER, [change(2, "y", 9)]), Road(LATER)
        self.assertEqual((first_parting(one, other), last_parting(one, other)), (2, 3))
        self.assertIsNone(first_parting(one, one))
        self.assertIsNone(last_parting(one, one))

    def test_by_chance(self):
        chance = chance_of(173)
        for _ in range(60):
            setting = random_setting(chance)
            stages = []
            roads = []
            for _ in range(2):
                legs, stage = random_legs(chance, setting, 3)
                stages.append(stage)
                roads.append(Road(setting, legs))

            def shown(stage, t):
                return view_anew(*stage, t) if stage[1] <= t <= stage[0].last() else None

            moments = range(max(stage[0].last() for stage in stages) + 1)
            parted = [t for t in moments if shown(stages[0], t) != shown(stages[1], t)]
            self.assertEqual(first_parting(*roads), parted[0] if parted else None)
            self.assertEqual(last_parting(*roads), parted[-1] if parted else None)

    def test_errors(self):
        road = Road(SETTING)
        for function in (first_parting, last_parting):
            self.refuses_all(NoRoad, odd_values(), function, behind=(None,))
            self.refuses_all(NoRoad, [*odd_values(), Road(LATER), Road(Setting(OLD, [5]))], function, road)


if __name__ == "__main__":
    unittest.main()
