"""Promise [22]: lines, deeds, trials, twins and the shortest commands; of [0.2] (h) and (j)."""

import unittest

from plainmoment.edits import Edit
from plainmoment.errors import (MomentError, NoCommand, NoCount, NoHand, NoLanding, NoMoment, NoRoad, NoSetting,
                                NothingBack, TooMany)
from plainmoment.hands import is_place, place_behind, places_behind, seen_at
from plainmoment.live import Live, shortest_to
from plainmoment.maderuns import made_moments, plain_moment
from plainmoment.roads import Setting
from tests.samples import Told, chance_of, odd_values, plain, random_legs, random_setting
from tests.test_hands import GONE, HOME, LATER, LOOPS, NO_COMMANDS, SETTING, command_by_chance

LANDED = (("change", 1, 0, "x", 5), ("land", 3, 0), ("change", 5, 0, "z", 4), ("land", 5, 1))


class Stopped(Exception):
    """What leaves a trial."""


def told_of(live):
    """All that a session shows of its hands, and how many deeds can be taken back."""
    return [(live.line(hand), live.place(hand), live.sees(hand), live.hands_with(hand)) for hand in range(live.many)], len(live)


class Sessions(Told):
    def test_at_first(self):
        live = Live(SETTING, many=3)
        self.assertTrue(live.setting() == SETTING)
        self.assertEqual((live.many, len(live)), (3, 0))
        for hand in range(3):
            self.assertEqual((live.place(hand), live.line(hand), live.hands_with(hand)), (HOME, ((), ()), [0, 1, 2]))
            self.assertEqual(live.sees(hand), seen_at(SETTING, HOME))
        self.assertEqual(Live(setting=SETTING).many, 1)

    def test_hands_do_not_change_each_other(self):
        live = Live(SETTING, many=2)
        self.assertIsNone(live.do(0, ("on", 3)))
        self.assertIsNone(live.do(1, ("change", 0, "x", 7)))
        live.do(0, ("land", 0))
        self.assertEqual((live.place(0), live.place(1)), (((("land", 3, 0),), 4, None), ((("change", 0, 0, "x", 7),), 0, None)))
        self.assertEqual((live.line(0), live.line(1)), (((("on", 3), ("land", 0)), ()), ((("change", 0, "x", 7),), ())))
        self.assertEqual([live.hands_with(hand) for hand in range(2)], [[0], [1]])
        live.undo(1)
        self.assertEqual((live.place(0), live.place(1)), (((("land", 3, 0),), 4, None), HOME))

    def test_hands_at_one_place(self):
        live = Live(SETTING, many=4)
        live.do(1, ("on", 3))
        live.do(3, ("to", 3))
        self.assertEqual([live.hands_with(hand) for hand in range(4)], [[0, 2], [1, 3], [0, 2], [1, 3]])
        self.assertEqual(live.sees(1), live.sees(3))
        live.do(3, ("stop", 1, 2))
        self.assertEqual(live.hands_with(3), [3])

    def test_lines(self):
        live = Live(SETTING)
        for command in (("on", 1), ("on", 2), ("home",)):
            live.do(0, command)
        self.assertIsNone(live.undo(0))
        self.assertEqual((live.place(0), live.line(0)), (((), 3, None), ((("on", 1), ("on", 2)), (("home",),))))
        live.undo(0)
        self.assertEqual((live.place(0), live.line(0)), (((), 1, None), ((("on", 1),), (("on", 2), ("home",)))))
        self.assertIsNone(live.redo(0))
        self.assertEqual((live.place(0), live.line(0)), (((), 3, None), ((("on", 1), ("on", 2)), (("home",),))))
        live.do(0, ("on", 1))
        self.assertEqual((live.place(0), live.line(0)), (((), 4, None), ((("on", 1), ("on", 2), ("on", 1)), ())))
        self.assertEqual(self.told(NothingBack, live.redo, 0), "redo")
        for _ in range(3):
            live.undo(0)
        self.assertEqual(self.told(NothingBack, live.undo, 0), "undo")
        self.assertEqual(live.line(0), ((), (("on", 1), ("on", 2), ("on", 1))))

    def test_what_is_refused_changes_nothing(self):
        live = Live(SETTING, many=2)
        live.do(0, ("on", 2))
        live.undo(0)
        live.do(1, ("on", 1))
        live.back()
        before = told_of(live)
        for error, function, arguments in ((NoMoment, live.do, (0, ("on", 9))), (NoCommand, live.do, (0, None)),
                                           (NothingBack, live.undo, (0,)), (NothingBack, live.redo, (1,)),
                                           (NoHand, live.do, (2, ("on", 1))), (NoHand, live.undo, (2,))):
            self.told(error, function, *arguments)
            self.assertEqual(told_of(live), before)
        live.again()
        self.assertEqual(live.place(1), ((), 1, None))
        live.redo(0)
        self.assertEqual(live.place(0), ((), 2, None))

    def test_errors(self):
        self.refuses_all(NoSetting, odd_values(), Live)
        for value in [*odd_values(), 0, 5]:
            self.assertIs(self.told(NoCount, Live, SETTING, many=value), value)
        self.told(NoSetting, Live, None, many=None)
        live = Live(SETTING, many=2)
        for hand in [*odd_values(), 2, -1]:
            for function, behind in ((live.do, (None,)), (live.undo, ()), (live.redo, ()), (live.place, ()), (live.sees, ()),
                                     (live.line, ()), (live.hands_with, ())):
                self.assertIs(self.told(NoHand, function, hand, *behind), hand)
        self.refuses_all(NoCommand, odd_values() + NO_COMMANDS, live.do, 0)
        loops = Live(LOOPS)
        loops.do(0, ("on", 1))
        self.assertEqual(self.most(loops.do, 0, ("change", 0, "x", 1)), 600)
        self.assertEqual(self.most(loops.do, 0, ("land", 0)), 600)
        self.assertEqual(self.told(NoLanding, loops.do, 0, ("land", 2)), 1)
        self.assertEqual(len(loops), 1)
        with self.assertRaises(TypeError):
            Live(SETTING, 2)
        with self.assertRaises(AttributeError):
            live.many = 3

    def test_what_is_handed_out_changes_nothing(self):
        live = Live(SETTING)
        live.hands_with(0).append(9)
        self.assertEqual(live.hands_with(0), [0])

    def test_equal(self):
        one, other = Live(SETTING, many=2), Live(SETTING, many=2)
        self.assertTrue(one == other)
        self.assertFalse(one == Live(SETTING) or one == Live(Setting(SETTING.program(), [5]), many=2) or one == None)  # noqa: E711
        one.do(0, ("on", 1))
        self.assertFalse(one == other)
        other.do(1, ("on", 1))
        self.assertFalse(one == other)
        # Other deeds behind them, and the same lines.
        other.undo(1)
        other.do(0, ("on", 2))
        other.back()
        other.back()
        other.back()
        other.do(0, ("on", 1))
        self.assertTrue(one == other)
        one.undo(0)
        self.assertFalse(one == other)
        self.assertFalse(one == Live(SETTING, many=2))


class Deeds(Told):
    def test_back_and_again(self):
        live = Live(SETTING, many=2)
        live.do(0, ("on", 1))
        live.do(1, ("on", 2))
        live.undo(0)
        live.redo(0)
        live.undo(1)
        self.assertEqual(len(live), 5)
        told = [((), (("on", 2),)), ((("on", 2),), ()), ((("on", 2),), ()), ((("on", 2),), ()), ((), ())]
        for many, line in zip((4, 3, 2, 1), told[1:]):
            self.assertIsNone(live.back())
            self.assertEqual((len(live), live.line(1)), (many, line))
        self.assertEqual(live.line(0), ((("on", 1),), ()))
        live.back()
        self.assertEqual((live.line(0), live.place(0)), (((), ()), HOME))
        self.assertEqual(self.told(NothingBack, live.back), 0)
        for many in range(1, 6):
            self.assertIsNone(live.again())
            self.assertEqual(len(live), many)
        self.assertEqual((live.line(0), live.line(1)), (((("on", 1),), ()), ((), (("on", 2),))))
        self.assertEqual(self.told(NothingBack, live.again), 0)

    def test_another_deed_leaves_nothing_to_be_done_again(self):
        live = Live(SETTING, many=2)
        for deed, arguments in ((live.do, (1, ("on", 1))), (live.undo, (0,)), (live.redo, (0,))):
            live.do(0, ("on", 1))
            if deed == live.redo:
                live.undo(0)
            live.do(1, ("home",))
            live.back()
            deed(*arguments)
            self.assertEqual(self.told(NothingBack, live.again), 0)

    def test_what_is_refused_is_no_deed(self):
        live = Live(SETTING)
        live.do(0, ("on", 1))
        live.back()
        self.told(NoMoment, live.do, 0, ("on", 9))
        self.told(NothingBack, live.undo, 0)
        live.again()
        self.assertEqual(live.place(0), ((), 1, None))

    def test_twins(self):
        live = Live(SETTING, many=2)
        live.do(0, ("on", 1))
        live.do(1, ("on", 2))
        live.do(1, ("on", 3))
        live.back()
        twin = live.twin()
        self.assertTrue(twin == live)
        self.assertEqual((twin.many, len(twin)), (2, 2))
        twin.again()
        self.assertFalse(twin == live)
        self.assertEqual(live.place(1), ((), 2, None))
        live.back()
        self.assertEqual((twin.place(1), len(twin), len(live)), (((), 5, None), 3, 1))
        live.do(0, ("home",))
        self.told(NothingBack, live.again)
        twin.back()
        twin.again()
        twin.back()
        twin.back()
        twin.back()
        self.assertTrue(twin == Live(SETTING, many=2))

    def test_by_chance_against_what_was_seen(self):
        chance = chance_of(221)
        for _ in range(25):
            setting = random_setting(chance, 30)
            live = Live(setting, many=chance.randrange(1, 5))
            states, at = [told_of(live)[0]], 0
            for _ in range(40):
                hand = chance.randrange(live.many)
                done, undone = live.line(hand)
                word = chance.choice(("do", "do", "do", "undo", "redo", "back", "again"))
                place = live.place(hand)
                command = command_by_chance(chance, setting, place)
                arguments = {"do": (hand, command), "undo": (hand,), "redo": (hand,)}.get(word, ())
                try:
                    getattr(live, word)(*arguments)
                except (MomentError, TooMany):
                    self.assertEqual(told_of(live)[0], states[at])
                    continue
                if word == "back":
                    at -= 1
                elif word == "again":
                    at += 1
                else:
                    states[at + 1:] = [told_of(live)[0]]
                    at += 1
                    line = {"do": ((*done, command), ()), "undo": (done[:-1], (*done[-1:], *undone)),
                            "redo": ((*done, *undone[:1]), undone[1:])}[word]
                    self.assertEqual(live.line(hand), line)
                    places = places_behind(setting, HOME, line[0])
                    self.assertEqual(live.place(hand), places[-1] if places else HOME)
                self.assertEqual(told_of(live), (states[at], at))


class Trials(Told):
    def begun(self):
        live = Live(SETTING, many=2)
        live.do(0, ("on", 1))
        live.do(1, ("on", 2))
        live.do(1, ("on", 1))
        live.back()
        return live

    def test_not_kept(self):
        live = self.begun()
        before = told_of(live)
        with live.trial() as session:
            self.assertIs(session, live)
            self.assertEqual(len(live), 0)
            self.assertEqual(self.told(NothingBack, live.back), 0)
            self.assertEqual(self.told(NothingBack, live.again), 0)
            live.do(0, ("on", 2))
            live.undo(1)
            self.assertEqual((len(live), live.place(0), live.place(1)), (2, ((), 3, None), HOME))
            live.back()
            self.assertEqual(len(live), 1)
        self.assertEqual(told_of(live), before)
        live.again()
        self.assertEqual((live.place(1), len(live)), (((), 3, None), 3))

    def test_kept(self):
        live = self.begun()
        before = told_of(live)
        trial = live.trial()
        with trial:
            live.do(0, ("on", 2))
            live.do(0, ("on", 1))
            live.do(1, ("home",))
            live.back()
            self.assertIsNone(trial.keep())
            live.do(1, ("on", 1))
        self.assertEqual((len(live), live.place(0), live.place(1)), (3, ((), 4, None), ((), 3, None)))
        self.assertEqual(live.line(0), ((("on", 1), ("on", 2), ("on", 1)), ()))
        self.assertEqual(self.told(NothingBack, live.again), 0)
        live.back()
        self.assertEqual(told_of(live), before)
        live.again()
        self.assertEqual((len(live), live.place(0)), (3, ((), 4, None)))

    def test_kept_without_a_deed(self):
        live = self.begun()
        before = told_of(live)
        trial = live.trial()
        with trial:
            trial.keep()
        self.assertEqual((told_of(live)[0], len(live)), (before[0], 3))
        self.assertEqual(self.told(NothingBack, live.again), 0)
        live.back()
        self.assertEqual(told_of(live), before)

    def test_keep_counts_within_the_block_alone(self):
        live = self.begun()
        before = told_of(live)
        trial = live.trial()
        trial.keep()
        with trial:
            live.do(0, ("on", 1))
        self.assertEqual(told_of(live), before)
        trial.keep()
        self.assertEqual(told_of(live), before)

    def test_left_by_an_error(self):
        live = self.begun()
        before = told_of(live)
        trial = live.trial()
        with self.assertRaises(Stopped):
            with trial:
                live.do(0, ("on", 2))
                trial.keep()
                raise Stopped
        self.assertEqual(told_of(live), before)
        live.again()
        self.assertEqual(live.place(1), ((), 3, None))
        with self.assertRaises(NoMoment):
            with live.trial():
                live.do(0, ("on", 9))

    def test_trials_within_a_trial(self):
        live = self.begun()
        before = told_of(live)
        outer = live.trial()
        with outer:
            live.do(0, ("on", 1))
            live.do(0, ("on", 1))
            live.back()
            inner = live.trial()
            with inner:
                live.do(1, ("on", 1))
                self.assertEqual(len(live), 1)
            self.assertEqual(len(live), 1)
            live.again()
            live.back()
            inner = live.trial()
            with inner:
                live.do(1, ("on", 1))
                live.do(1, ("on", 1))
                inner.keep()
            self.assertEqual((len(live), live.place(1)), (2, ((), 4, None)))
            self.assertEqual(self.told(NothingBack, live.again), 0)
            live.back()
            self.assertEqual((len(live), live.place(1)), (1, ((), 2, None)))
            live.again()
            outer.keep()
        self.assertEqual((len(live), live.place(0), live.place(1)), (3, ((), 2, None), ((), 4, None)))
        live.back()
        self.assertEqual(told_of(live), before)

    def test_an_outer_trial_that_is_not_kept_takes_all_back(self):
        live = self.begun()
        before = told_of(live)
        with live.trial():
            inner = live.trial()
            with inner:
                live.do(1, ("on", 1))
                inner.keep()
        self.assertEqual(told_of(live), before)

    def test_the_outer_one_may_be_kept_from_within(self):
        live = self.begun()
        outer = live.trial()
        with outer:
            with live.trial():
                live.do(1, ("on", 1))
                outer.keep()
            live.do(0, ("on", 1))
        self.assertEqual((len(live), live.place(0), live.place(1)), (3, ((), 2, None), ((), 2, None)))

    def test_trying(self):
        live = self.begun()
        before = told_of(live)

        def guest(session):
            self.assertIs(session, live)
            session.do(0, ("on", 2))
            return [len(session)]

        self.assertEqual(live.trying(guest), [1])
        self.assertEqual(told_of(live), before)
        for kept in (1, "yes", None, [1]):
            live.trying(guest, kept=kept)
            self.assertEqual(told_of(live), before)
        self.assertEqual(live.trying(guest, kept=True), [1])
        self.assertEqual((len(live), live.place(0)), (3, ((), 3, None)))
        live.back()
        self.assertEqual(told_of(live), before)
        with self.assertRaises(TypeError):
            live.trying(guest, True)

    def test_a_guest_that_raises(self):
        live = self.begun()
        before = told_of(live)

        def guest(session):
            session.do(0, ("on", 2))
            raise Stopped

        for kept in (True, False):
            with self.assertRaises(Stopped):
                live.trying(guest, kept=kept)
            self.assertEqual(told_of(live), before)

    def test_trying_within_trying(self):
        live = self.begun()
        live.trying(lambda one: one.trying(lambda other: other.do(0, ("on", 2)), kept=True), kept=True)
        self.assertEqual((len(live), live.place(0)), (3, ((), 3, None)))

    def test_a_twin_of_a_trial_goes_on_by_itself(self):
        live = self.begun()
        with live.trial():
            live.do(0, ("on", 2))
            twin = live.twin()
        self.assertEqual((len(twin), twin.place(0), live.place(0)), (1, ((), 3, None), ((), 1, None)))
        twin.back()
        self.assertTrue(twin == live)
        self.assertEqual(self.told(NothingBack, twin.back), 0)


class Shortest(Told):
    def test_ordinary(self):
        self.assertEqual(shortest_to(SETTING, HOME), [])
        self.assertEqual(shortest_to(SETTING, ((), 3, None)), [("to", 3)])
        self.assertEqual(shortest_to(SETTING, ((), 3, (1, 2))), [("to", 3), ("stop", 1, 2)])
        self.assertEqual(shortest_to(SETTING, (LANDED, 4, None)), [
            ("to", 1), ("change", 0, "x", 5), ("to", 3), ("land", 0), ("to", 5), ("change", 0, "z", 4), ("land", 1)])
        self.assertEqual(shortest_to(SETTING, (LANDED[:2], 6, None)),
                         [("to", 1), ("change", 0, "x", 5), ("to", 3), ("land", 0), ("to", 6)])
        self.assertEqual(shortest_to(LATER, (GONE, 2, None)), [("to", 2), ("change", 0, "y", 9), ("land", 0)])

    def test_a_made_moment_at_home(self):
        program = plain((("copy", "x", 1), ("back", "x")))
        self.assertEqual(shortest_to(Setting(program), ((), 0, (0, 0))), [("stop", 0, 0)])

    def test_from_a_floor_to_an_earlier_moment_of_a_change(self):
        # The floor is what is come to behind a landing, not the moment that it is from.
        legs = (("land", 3, 0), ("change", 4, 0, "z", 1))
        self.assertEqual(shortest_to(SETTING, (legs, 4, None)), [("to", 3), ("land", 0), ("change", 0, "z", 1)])

    def test_they_lead_there_by_chance(self):
        chance = chance_of(222)
        made = 0
        for _ in range(60):
            setting = random_setting(chance, 40)
            legs, (run, floor, _) = random_legs(chance, setting)
            place = (legs, chance.randrange(floor, run.last() + 1), None)
            if not legs:
                stops = [(plain_moment(setting.code(), run, here), here) for here in made_moments(setting.code(), run)
                         if here[1] is not None]
                if stops:
                    place = ((), *chance.choice(stops))
                    made += 1
            commands = shortest_to(setting, place)
            now = HOME
            for command in commands:
                now = place_behind(setting, now, command)
            self.assertEqual(now, place)
            words = [command[0] for command in commands if command[0] != "to"]
            self.assertEqual(words, [leg[0] for leg in legs] + ["stop"] * (place[2] is not None))
            self.assertFalse([pair for pair in zip(commands, commands[1:]) if pair[0][0] == pair[1][0] == "to"])
        self.assertGreater(made, 2)

    def test_no_fewer_lead_there(self):
        program = plain((("get", "x"), ("copy", "y", "x"), ("back", "y")))
        setting = Setting(program, [1], edits=[Edit.same(program)])
        commands = [("on", 1), ("to", 0), ("to", 1), ("to", 2), ("to", 3), ("back", 1), ("home",), ("land", 0),
                    ("change", 0, "x", 1), ("change", 0, "y", 2), ("next", ("ended",)), ("stop", 1, 0), ("stop", 1, 1)]
        reached, edge = {HOME: 0}, [HOME]
        for many in range(1, 4):
            ahead, edge = edge, []
            for place in ahead:
                for command in commands:
                    try:
                        there = place_behind(setting, place, command)
                    except (MomentError, TooMany):
                        continue
                    if there not in reached:
                        reached[there] = many
                        edge.append(there)
        self.assertGreater(len(reached), 60)
        for place, many in reached.items():
            self.assertTrue(is_place(setting, place))
            self.assertEqual(len(shortest_to(setting, place)), many)

    def test_errors(self):
        self.refuses_all(NoSetting, odd_values(), shortest_to, behind=(None,))
        self.refuses_all(NoRoad, [*odd_values(), ((), 6, None), (LANDED, 3, None)], shortest_to, SETTING)


if __name__ == "__main__":
    unittest.main()
