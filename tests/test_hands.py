"""Promise [17], hands: places, commands, what they lead to, and what is seen; of [0.2] (h)."""

import unittest

from plainmoment.edits import Edit
from plainmoment.errors import (MomentError, NoCell, NoCommand, NoCondition, NoEdit, NoLanding, NoMoment, NoRoad,
                                NoSetting, NoStop, TooMany)
from plainmoment.hands import (can_do, home_place, is_command, is_place, place_behind, places_behind, see_alike,
                               seen_at)
from plainmoment.maderuns import made_moments, plain_moment, told_at
from plainmoment.programs import Program
from plainmoment.roads import Road, Setting
from plainmoment.seeking import cells_in, holds_at, is_condition
from tests.samples import (CALLER, Odd, Told, chance_of, gone_anew, odd_values, plain, random_legs, random_setting,
                           stage_anew, view_anew)

OLD = plain((("get", "x"), ("set", "y", "add", "x", 1), ("set", "x", "mul", "y", 2), ("out", "x"), ("back", "x")))
NEW = plain((("get", "x"), ("set", "y", "add", "x", 1), ("set", "x", "mul", "y", 2), ("copy", "z", 7), ("out", "x"),
             ("back", "x")))
ROWS = ((0, 0), (1, 1), (2, 2), (3, 4), (4, 5))
EDIT = Edit(OLD, NEW, [(("main", one), ("main", other)) for one, other in ROWS])
BACK = Edit(NEW, OLD, [(("main", other), ("main", one)) for one, other in ROWS])
MADE = (("main", 1, 2), (("set", "r0", "add", "x", 1), ("set", "x", "mul", "r0", 2), ("copy", "y", "r0")), (0, 1, 2, 2))
SETTING = Setting(OLD, [5], stretches=[MADE], edits=[EDIT, BACK, Edit.same(OLD)])
HOME = ((), 0, None)

LATE = plain((("get", "x"), ("copy", "y", 1), ("out", "x"), ("copy", "y", "x"), ("out", "y"), ("back", "y")))
LATER = Setting(LATE, [5], edits=[Edit.same(LATE)])
GONE = (("change", 2, 0, "y", 9), ("land", 2, 0))

LOOP = plain((("get", "x"), ("if", "x", 1), ("back", "x")))
LOOPS = Setting(LOOP, [0], edits=[Edit(LOOP, plain((("go", 0),)), []), Edit(CALLER, CALLER, []), Edit(LOOP, LOOP, [])])

COMMANDS = [("on", 1), ("on", 600), ("back", 1), ("back", 600), ("to", 0), ("to", 600), ("next", ("ended",)),
            ("last", ("not", ("row", ("main", 5)))), ("change", 0, "x", 0), ("change", 600, "long", 9972), ("land", 0),
            ("land", 2), ("stop", 0, 0), ("stop", 600, 600), ("home",)]
NO_COMMANDS = [("on", 0), ("on", 601), ("on",), ("on", 1, 1), ("on", True), ("on", "1"), ("back", 0), ("back", 601),
               ("back",), ("to", -1), ("to", 601), ("to", True), ("to",), ("next",), ("next", ("end",)), ("last", None),
               ("last", ("row", ("main", 6))), ("next", ("row", ("f", 0))), ("change", 0, "x"), ("change", 601, "x", 1),
               ("change", -1, "x", 1), ("change", 0, "X", 1), ("change", 0, "x", 9973), ("change", 0, "x", True),
               ("change", 0, "x", 1, 1), ("land", 3), ("land", -1), ("land", True), ("land",), ("stop", 0), ("stop", 601, 0),
               ("stop", 0, 601), ("stop", 0, None), ("stop", 0, 0, 0), ("home", 0), "home", ["home"], ("undo",),
               ("Home",), (Odd(),), ("on", Odd()), ("to", Odd()), ("next", Odd()), ("next", (Odd(),)), ("change", Odd(), "x", 1),
               ("change", 0, Odd(), 1), ("change", 0, "x", Odd()), ("land", Odd()), ("stop", Odd(), 0), ("stop", 0, Odd())]


def led_anew(setting, place, command):
    """Where a command leads by the words of the document; raises as it cannot be done."""
    legs, moment, _ = place
    run, floor, gone = stage_anew(setting, legs)
    word = command[0]
    lands = [at for at, leg in enumerate(legs) if leg[0] == "land"]
    begun = lands[-1] + 1 if lands else 0
    if word == "home":
        return HOME
    if word in ("on", "to"):
        to = command[1] + (moment if word == "on" else 0)
        if not floor <= to <= run.last():
            raise NoMoment(to)
        return (legs, to, None)
    if word == "back":
        for _ in range(command[1]):
            if moment > floor:
                moment -= 1
            elif lands:
                moment, legs = legs[lands[-1]][1], legs[:lands[-1]]
                floor = stage_anew(setting, legs)[1]
                lands = lands[:-1]
            else:
                raise NoMoment(None)
        return (legs, moment, None)
    if word in ("next", "last"):
        if not is_condition(run.program(), command[1]):
            raise NoCondition(command[1])
        found = [t for t in range(floor, run.last() + 1) if holds_at(run, t, command[1])
                 and not set(cells_in(command[1])) & set(gone_anew(run, floor, gone, t))]
        found = [t for t in found if t > moment] if word == "next" else [t for t in found if t < moment][::-1]
        if not found:
            raise NoMoment(None)
        return (legs, found[0], None)
    if word == "stop":
        here = command[1:]
        if legs or here not in made_moments(setting.code(), run) or plain_moment(setting.code(), run, here) != moment:
            raise NoStop(here)
        return (legs, moment, here)
    left = legs[:begun] + tuple(leg for leg in legs[begun:] if leg[1] <= moment)
    if word == "change":
        born, variable, value = command[1:]
        frames = {frame[0]: frame[1] for frame in run.state(moment)[1]}
        if born not in frames or variable not in run.program().variables_of(frames[born]):
            raise NoCell((born, variable))
        if len(left) == 8:
            raise TooMany(8)
        left = (*left, ("change", moment, born, variable, value))
        stage_anew(setting, left)
        return (left, moment, None)
    if setting.edits()[command[1]].old() != run.program():
        raise NoEdit(command[1])
    if len(left) == 8:
        raise TooMany(8)
    left = (*left, ("land", moment, command[1]))
    behind = stage_anew(setting, left)
    if behind is None:
        raise NoLanding(moment)
    return (left, behind[1], None)


def condition_by_chance(chance, setting, run, t):
    frame = chance.choice(run.state(t)[1] or ((0, "main", 0, ()),))
    names = run.program().variables_of(frame[1]) or ["x"]
    name = chance.choice(names)
    plain_one = chance.choice((("cell", frame[0], name, dict(frame[3]).get(name, 0)), ("above", frame[0], name, 1),
                               ("row", chance.choice(run.program().spots())), ("ended",), ("outputs", 1), ("depth", 2),
                               ("beneath", chance.choice(setting.program().spots())), ("output", 0, 1)))
    return chance.choice((plain_one, plain_one, ("not", plain_one), ("either", plain_one, ("not", ("ended",)))))


def command_by_chance(chance, setting, place):
    run, floor, _ = stage_anew(setting, place[0])
    moment = place[1]
    word = chance.choice(("on", "back", "to", "next", "last", "change", "change", "land", "land", "stop", "home"))
    if word in ("on", "back"):
        return (word, chance.choice((1, 2, chance.randrange(1, 40))))
    if word == "to":
        return (word, chance.randrange(max(floor - 1, 0), run.last() + 2))
    if word in ("next", "last"):
        return (word, condition_by_chance(chance, setting, run, chance.randrange(floor, run.last() + 1)))
    if word == "change":
        frame = chance.choice(run.state(moment)[1] or ((0, "main", 0, ()),))
        names = run.program().variables_of(frame[1]) or ["x"]
        return (word, frame[0], chance.choice(names), chance.choice((0, 1, chance.randrange(9973))))
    if word == "land":
        numbers = [at for at, edit in enumerate(setting.edits()) if edit.old() == run.program()] or [0]
        return (word, chance.choice(numbers) if chance.random() < 0.9 else chance.randrange(len(setting.edits())))
    if word == "stop" and chance.random() < 0.8:
        main = setting.main_run()
        there = [here for here in made_moments(setting.code(), main) if here[1] is not None]
        near = [here for here in there if plain_moment(setting.code(), main, here) == moment]
        if near or there:
            return (word, *chance.choice(near or there))
    return ("stop", moment, 0) if word == "stop" else ("home",)


class Places(Told):
    def test_home(self):
        self.assertEqual(home_place(), HOME)
        self.assertIs(is_place(SETTING, home_place()), True)

    def test_ordinary(self):
        landed = (("land", 3, 0),)
        for place in (((), 5, None), (landed, 4, None), (landed, 6, None), (((("change", 1, 0, "x", 9)),), 1, None)):
            self.assertIs(is_place(SETTING, place), True)
        for place in (((), 6, None), ((), -1, None), (landed, 3, None), (landed, 7, None), ((("land", 3, 1),), 4, None),
                      ([], 0, None), ((), True, None), ((), 0), ((), 0, None, None), [(), 0, None], ((), None, None)):
            self.assertIs(is_place(SETTING, place), False)

    def test_made_moments(self):
        for u, stop, t in ((1, 0, 1), (1, 1, 2), (1, 2, 3), (1, 3, 3)):
            for moment in range(6):
                self.assertIs(is_place(SETTING, ((), moment, (u, stop))), moment == t)
        for made in ((0, None), (3, None), (1, 4), (2, 0), (1, -1), (1, True), [1, 0], (1,), (1, 0, 0), Odd(), (Odd(), 0),
                     (1, Odd())):
            for t in (0, 1, 3):
                self.assertIs(is_place(SETTING, ((), t, made)), False)
        legs = (("change", 0, 0, "x", 0),)
        self.assertIs(is_place(SETTING, (legs, 1, None)), True)
        self.assertIs(is_place(SETTING, (legs, 1, (1, 0))), False)

    def test_any_value(self):
        self.likes_none(odd_values(), is_place, SETTING)
        self.likes_none([(value, 0, None) for value in odd_values() if value.__class__ is not tuple], is_place, SETTING)
        self.likes_none([((value,), 0, None) for value in odd_values()], is_place, SETTING)
        self.likes_none([((), value, None) for value in odd_values()], is_place, SETTING)
        self.likes_none([((), 1, value) for value in odd_values() if value is not None], is_place, SETTING)
        # A road of which a run would be too long is none.
        self.assertIs(is_place(LOOPS, ((("change", 1, 0, "x", 1),), 0, None)), False)
        self.assertIs(is_place(SETTING, (9 * (("change", 0, 0, "x", 1),), 0, None)), False)

    def test_no_setting(self):
        for value in (HOME, None):
            self.refuses_all(NoSetting, odd_values(), is_place, behind=(value,))

    def test_seen(self):
        self.assertEqual(seen_at(SETTING, ((), 3, None)),
                         (3, ((0, "main", 3, (("x", 12), ("y", 6))),), 1, (), None))
        self.assertEqual(seen_at(SETTING, ((("land", 3, 0),), 4, None)),
                         (4, ((0, "main", 4, (("x", 12), ("y", None), ("z", None))),), 1, (), None))
        self.assertEqual([seen_at(SETTING, ((), t, (1, stop)))[1][0] for t, stop in ((1, 0), (2, 1), (3, 2), (3, 3))], [
            (0, "main", 1, (("x", 5), ("y", 0))), (0, "main", 2, (("x", 5), ("y", 6))),
            (0, "main", 3, (("x", 12), ("y", 6))), (0, "main", 3, (("x", 12), ("y", 6)))])

    def test_seen_at_made_moments_where_variables_are_gone(self):
        made = (("main", 1, 2), (("set", "x", "add", "x", 1), ("copy", "y", "x"), ("set", "x", "mul", "y", 2)),
                (0, 0, 0, 2))
        setting = Setting(OLD, [5], stretches=[made])
        self.assertEqual(seen_at(setting, ((), 1, (1, 1)))[1][0][3], (("x", None), ("y", 0)))
        self.assertEqual(seen_at(setting, ((), 1, (1, 2)))[1][0][3], (("x", None), ("y", None)))
        self.assertFalse(see_alike(setting, ((), 1, (1, 1)), ((), 1, None)))
        self.assertTrue(see_alike(setting, ((), 1, (1, 0)), ((), 1, None)))

    def test_errors_of_what_is_seen(self):
        self.refuses_all(NoSetting, odd_values(), seen_at, behind=(None,))
        self.refuses_all(NoRoad, [*odd_values(), ((), 6, None)], seen_at, SETTING)
        self.refuses_all(NoSetting, odd_values(), see_alike, behind=(None, None))
        self.refuses_all(NoRoad, odd_values(), see_alike, SETTING, behind=(None,))
        self.refuses_all(NoRoad, odd_values(), see_alike, SETTING, HOME)

    def test_see_alike(self):
        self.assertIs(see_alike(SETTING, HOME, HOME), True)
        self.assertIs(see_alike(SETTING, HOME, ((), 1, None)), False)
        self.assertIs(see_alike(SETTING, ((("change", 1, 0, "x", 5),), 3, None), ((), 3, None)), True)
        self.assertIs(see_alike(SETTING, ((("change", 1, 0, "x", 6),), 3, None), ((), 3, None)), False)
        self.assertIs(see_alike(SETTING, ((("change", 1, 0, "x", 6),), 0, None), ((), 0, None)), True)


class Commands(Told):
    def test_by_their_form(self):
        for command in COMMANDS:
            self.assertIs(is_command(SETTING, command), True, command)
        self.likes_none(NO_COMMANDS + odd_values(), is_command, SETTING)

    def test_conditions_of_any_program_of_the_setting(self):
        self.assertTrue(is_command(LOOPS, ("next", ("row", ("sum", 5)))))
        self.assertTrue(is_command(LOOPS, ("next", ("row", ("main", 2)))))
        self.assertFalse(is_command(LOOPS, ("next", ("both", ("row", ("main", 5)), ("row", ("sum", 5))))))
        self.assertTrue(is_command(SETTING, ("last", ("row", ("main", 5)))))
        self.assertFalse(is_command(Setting(OLD), ("last", ("row", ("main", 5)))))
        self.assertFalse(is_command(Setting(OLD), ("land", 0)))

    def test_deep_conditions(self):
        three = ("not", ("both", ("ended",), ("ended",)))
        self.assertTrue(is_command(SETTING, ("next", three)))
        self.assertFalse(is_command(SETTING, ("next", ("not", three))))

    def test_errors(self):
        self.refuses_all(NoSetting, odd_values(), is_command, behind=(None,))


class Behind(Told):
    def behind(self, place, *command):
        return place_behind(SETTING, place, command)

    def test_on_and_back_and_to(self):
        self.assertEqual(self.behind(HOME, "on", 3), ((), 3, None))
        self.assertEqual(self.behind(((), 1, (1, 0)), "on", 4), ((), 5, None))
        self.assertEqual(self.told(NoMoment, self.behind, ((), 2, None), "on", 4), 6)
        self.assertEqual(self.behind(((), 3, (1, 3)), "back", 3), HOME)
        self.assertIsNone(self.told(NoMoment, self.behind, ((), 3, None), "back", 4))
        self.assertEqual(self.behind(((), 3, (1, 3)), "to", 3), ((), 3, None))
        self.assertEqual(self.told(NoMoment, self.behind, HOME, "to", 6), 6)
        self.assertEqual(self.told(NoMoment, self.behind, ((("land", 3, 0),), 5, None), "to", 3), 3)

    def test_back_over_landings(self):
        legs = (("change", 1, 0, "x", 5), ("land", 3, 0), ("land", 5, 1))
        place = (legs, 5, None)
        self.assertEqual(self.behind(place, "back", 1), (legs, 4, None))
        self.assertEqual(self.behind(place, "back", 2), (legs[:2], 5, None))
        self.assertEqual(self.behind(place, "back", 3), (legs[:2], 4, None))
        self.assertEqual(self.behind(place, "back", 4), (legs[:1], 3, None))
        self.assertEqual(self.behind(place, "back", 7), (legs[:1], 0, None))
        self.assertIsNone(self.told(NoMoment, self.behind, place, "back", 8))
        # At the floor 0 one step leads over a landing, too.
        self.assertEqual(self.behind(((("land", 0, 2),), 0, None), "back", 1), HOME)

    def test_all_legs_ahead_of_a_landing_stay(self):
        legs = (("land", 0, 2), ("change", 2, 0, "x", 5), ("land", 3, 0))
        self.assertEqual(self.behind((legs, 4, None), "back", 3), (legs[:2], 1, None))

    def test_next_and_last(self):
        self.assertEqual(self.behind(HOME, "next", ("above", 0, "x", 4)), ((), 1, None))
        self.assertEqual(self.behind(((), 1, None), "next", ("above", 0, "x", 4)), ((), 2, None))
        self.assertEqual(self.behind(((), 5, None), "last", ("row", ("main", 1))), ((), 1, None))
        self.assertIsNone(self.told(NoMoment, self.behind, ((), 1, None), "last", ("row", ("main", 1))))
        self.assertIsNone(self.told(NoMoment, self.behind, ((), 5, None), "next", ("ended",)))
        self.assertEqual(self.told(NoCondition, self.behind, HOME, "next", ("row", ("main", 5))), ("row", ("main", 5)))
        landed = (("land", 3, 0),)
        self.assertEqual(self.behind((landed, 4, None), "next", ("row", ("main", 5))), (landed, 5, None))
        self.assertIsNone(self.told(NoMoment, self.behind, (landed, 5, None), "last", ("row", ("main", 3))))
        self.assertEqual(self.behind((landed, 5, None), "last", ("row", ("main", 4))), (landed, 4, None))

    def test_conditions_that_ask_what_is_gone_do_not_hold_as_a_whole(self):
        def behind(t, word, condition):
            return place_behind(LATER, (GONE, t, None), (word, condition))[1]

        asked = ("cell", 0, "y", 1)
        self.assertEqual([gone_anew(*stage_anew(LATER, GONE), t) for t in (2, 3, 4)], [[(0, "y")], [(0, "y")], []])
        self.assertIsNone(self.told(NoMoment, behind, 2, "next", asked))
        self.assertEqual(behind(2, "next", ("not", asked)), 4)
        self.assertEqual(behind(2, "next", ("either", ("outputs", 1), asked)), 4)
        self.assertEqual(behind(2, "next", ("outputs", 1)), 3)
        self.assertEqual(behind(2, "next", ("not", ("either", ("ended",), ("above", 0, "y", 600)))), 4)
        self.assertIsNone(self.told(NoMoment, behind, 4, "last", ("not", ("above", 0, "y", 600))))
        self.assertEqual(behind(5, "last", ("not", ("above", 0, "y", 600))), 4)

    def test_change(self):
        one = (("change", 1, 0, "x", 9),)
        self.assertEqual(self.behind(((), 1, (1, 0)), *one[0][:1], 0, "x", 9), (one, 1, None))
        two = (*one, ("change", 1, 0, "x", 8))
        self.assertEqual(self.behind((one, 1, None), "change", 0, "x", 8), (two, 1, None))
        self.assertEqual(self.behind((two, 0, None), "change", 0, "y", 7), ((("change", 0, 0, "y", 7),), 0, None))
        for place, cell in ((HOME, (0, "z")), (HOME, (1, "x")), (((), 5, None), (0, "x"))):
            self.assertEqual(self.told(NoCell, self.behind, place, "change", *cell, 1), cell)

    def test_legs_ahead_of_a_landing_never_fall_away(self):
        legs = (("change", 2, 0, "y", 6), ("land", 2, 2), ("change", 2, 0, "y", 3), ("change", 3, 0, "y", 4))
        self.assertEqual(self.behind((legs, 2, None), "change", 0, "x", 1),
                         (legs[:3] + (("change", 2, 0, "x", 1),), 2, None))
        legs = (("change", 3, 0, "y", 6), ("land", 3, 0))
        self.assertEqual(self.behind((legs, 4, None), "change", 0, "z", 1),
                         (legs + (("change", 4, 0, "z", 1),), 4, None))

    def test_a_landing_from_a_later_moment_stays(self):
        legs = (("land", 3, 0), ("land", 5, 1))
        for t in (4, 5):
            self.assertTrue(is_place(SETTING, (legs, t, None)))
        self.assertEqual(self.behind((legs, 4, None), "change", 0, "y", 1), (legs + (("change", 4, 0, "y", 1),), 4, None))
        self.assertEqual(self.behind((legs, 4, None), "land", 2), (legs + (("land", 4, 2),), 4, None))

    def test_land(self):
        self.assertEqual(self.behind(((), 3, None), "land", 0), ((("land", 3, 0),), 4, None))
        legs = (("change", 3, 0, "y", 2),)
        self.assertEqual(self.behind((legs, 3, None), "land", 0), ((*legs, ("land", 3, 0)), 4, None))
        self.assertEqual(self.behind((legs, 2, None), "land", 0), ((("land", 2, 0),), 2, None))
        self.assertEqual(self.told(NoEdit, self.behind, ((), 3, None), "land", 1), 1)
        self.assertEqual(self.told(NoEdit, self.behind, ((("land", 3, 0),), 4, None), "land", 0), 0)
        self.assertEqual(self.told(NoLanding, self.behind, ((("change", 1, 0, "x", 9),), 3, None), "land", 0), 3)

    def test_stop(self):
        self.assertEqual(self.behind(((), 3, None), "stop", 1, 2), ((), 3, (1, 2)))
        self.assertEqual(self.behind(((), 3, (1, 2)), "stop", 1, 3), ((), 3, (1, 3)))
        for place, stop in ((((), 2, None), (1, 2)), (HOME, (0, 0)), (((), 3, None), (1, 4)),
                            (((("land", 3, 2),), 3, None), (1, 3))):
            self.assertEqual(self.told(NoStop, self.behind, place, "stop", *stop), stop)

    def test_home(self):
        for place in (HOME, ((), 3, (1, 2)), ((("land", 3, 0),), 4, None)):
            self.assertEqual(self.behind(place, "home"), HOME)

    def test_nine_legs(self):
        legs = 8 * (("change", 1, 0, "x", 5),)
        self.assertEqual(self.most(self.behind, (legs, 1, None), "change", 0, "x", 1), 8)
        self.assertEqual(self.most(self.behind, (legs, 1, None), "land", 0), 8)
        self.assertEqual(self.told(NoCell, self.behind, (legs, 1, None), "change", 0, "z", 1), (0, "z"))
        self.assertEqual(self.told(NoEdit, self.behind, (legs, 1, None), "land", 1), 1)
        # What falls away makes room.
        self.assertEqual(self.behind((legs, 0, None), "land", 0), ((("land", 0, 0),), 0, None))
        # Ahead of a landing that is not right.
        wrong = 8 * (("change", 1, 0, "x", 9),)
        self.assertEqual(self.most(self.behind, (wrong, 1, None), "land", 0), 8)
        landed = (*(7 * (("change", 1, 0, "x", 5),)), ("land", 1, 0))
        self.assertEqual(self.most(self.behind, (landed, 1, None), "change", 0, "x", 1), 8)

    def test_runs_that_would_come(self):
        self.assertEqual(self.most(place_behind, LOOPS, ((), 1, None), ("change", 0, "x", 1)), 600)
        self.assertEqual(self.most(place_behind, LOOPS, ((), 1, None), ("land", 0)), 600)
        self.assertEqual(self.told(NoEdit, place_behind, LOOPS, ((), 1, None), ("land", 1)), 1)
        self.assertEqual(self.told(NoLanding, place_behind, LOOPS, ((), 1, None), ("land", 2)), 1)

    def test_errors_in_their_order(self):
        self.refuses_all(NoSetting, odd_values(), place_behind, behind=(None, None))
        self.refuses_all(NoRoad, odd_values(), place_behind, SETTING, behind=(None,))
        self.refuses_all(NoCommand, odd_values() + NO_COMMANDS, place_behind, SETTING, HOME)

    def test_can_do(self):
        self.assertIs(can_do(SETTING, HOME, ("on", 5)), True)
        for command in (("on", 6), ("back", 1), ("next", ("row", ("main", 5))), ("change", 1, "x", 1), ("land", 1),
                        ("stop", 1, 0)):
            self.assertIs(can_do(SETTING, HOME, command), False)
        self.assertIs(can_do(LOOPS, ((), 1, None), ("land", 0)), False)
        self.likes_none(odd_values() + NO_COMMANDS, can_do, SETTING, HOME)
        self.refuses_all(NoSetting, odd_values(), can_do, behind=(None, None))
        self.refuses_all(NoRoad, odd_values(), can_do, SETTING, behind=(None,))

    def test_places_behind(self):
        commands = [("on", 3), ("land", 0), ("on", 1), ("land", 1), ("stop", 1, 1), ("home",)]
        self.assertEqual(places_behind(SETTING, HOME, []), [])
        self.assertEqual(places_behind(SETTING, HOME, tuple(commands[:4])), [
            ((), 3, None), ((("land", 3, 0),), 4, None), ((("land", 3, 0),), 5, None),
            ((("land", 3, 0), ("land", 5, 1)), 4, None)])
        self.assertEqual(self.told(NoStop, places_behind, SETTING, HOME, commands), (1, 1))
        self.assertEqual(self.told(NoMoment, places_behind, SETTING, HOME, [("on", 9), None]), 9)
        self.assertIsNone(self.told(NoCommand, places_behind, SETTING, HOME, [("on", 1), None]))
        for value in odd_values():
            if not isinstance(value, (list, tuple)):
                self.assertIsNone(self.told(NoCommand, places_behind, SETTING, HOME, value))
        self.refuses_all(NoSetting, odd_values(), places_behind, behind=(None, None))
        self.refuses_all(NoRoad, odd_values(), places_behind, SETTING, behind=(None,))


class ByChance(Told):
    def led(self, function, *arguments):
        try:
            return function(*arguments)
        except (MomentError, TooMany) as error:
            return (error.__class__, vars(error))

    def test_commands_lead_where_the_document_says(self):
        chance = chance_of(174)
        kinds = {}
        for _ in range(40):
            setting = random_setting(chance, 40)
            legs, (run, floor, _) = random_legs(chance, setting, 3)
            place = (legs, chance.randrange(floor, run.last() + 1), None)
            for _ in range(30):
                command = command_by_chance(chance, setting, place)
                if not is_command(setting, command):
                    continue
                led = self.led(led_anew, setting, place, command)
                self.assertEqual(self.led(place_behind, setting, place, command), led)
                done = led[0].__class__ is tuple
                self.assertIs(can_do(setting, place, command), done)
                kinds[command[0], done] = kinds.get((command[0], done), 0) + 1
                if done:
                    self.assertTrue(is_place(setting, led))
                    place = led
                    self.check_seen(setting, place)
        self.assertEqual(len(kinds), 17, kinds)

    def check_seen(self, setting, place):
        legs, moment, made = place
        seen = view_anew(*stage_anew(setting, legs), moment)
        if made is not None:
            top = seen[1][-1]
            told = [(name, told_at(setting.code(), setting.main_run(), made, name)) for name, _ in top[3]]
            pairs = tuple((name, one[1] if one[0] == "shown" else None) for name, one in told)
            self.assertTrue(all(pair[1] in (None, plain_pair[1]) for pair, plain_pair in zip(pairs, top[3])))
            seen = (*seen[:1], (*seen[1][:-1], (*top[:3], pairs)), *seen[2:])
        self.assertEqual(seen_at(setting, place), seen)


class Programs(Told):
    def test_cells_of_frames_beneath(self):
        deep = Program([("main", (), (("copy", "k", 4), ("call", "r", "f", ("k",)), ("back", "k"))),
                        ("f", ("p",), (("out", "p"), ("back", "p")))])
        setting = Setting(deep, edits=[Edit.same(deep)])
        places = places_behind(setting, HOME, [("next", ("beneath", ("main", 1))), ("change", 0, "k", 8),
                                               ("change", 2, "p", 3), ("next", ("ended",))])
        self.assertEqual([place[1] for place in places], [2, 2, 2, 5])
        self.assertEqual(seen_at(setting, places[-1]), (5, (), 0, (3,), 8))
        self.assertEqual(Road(setting, places[-1][0]).run().result(), 8)


if __name__ == "__main__":
    unittest.main()
