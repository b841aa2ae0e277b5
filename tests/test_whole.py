"""Promises [0], [0.1] and [0.2], (a) to (j): what holds over the whole program, its parts used together."""

import unittest

from plainmoment.allroads import journey_changes, journey_moments, step_cost
from plainmoment.alive import first_meeting
from plainmoment.apart import are_apart, joined_run, put_together
from plainmoment.branches import lean_changes
from plainmoment.causes import agree_about
from plainmoment.console import Console
from plainmoment.counters import arcs_of, cheapest_counters, counts_at, counts_by, standing_at
from plainmoment.edits import Edit
from plainmoment.errors import MomentError, NoChanges, TooMany
from plainmoment.hands import home_place, is_place, places_behind, see_alike, seen_at
from plainmoment.keptstates import Kept, even_on, least_on
from plainmoment.landings import landings, led_on, own_run
from plainmoment.leastchanges import least_sets, run_of, whole_blame
from plainmoment.live import Live, shortest_to
from plainmoment.made import table_at
from plainmoment.madelandings import begins, landing_stops, made_goal, made_shown
from plainmoment.maderuns import Made, made_moments, plain_moment
from plainmoment.pauses import bound_of, come_spots, pause_at
from plainmoment.programs import Program
from plainmoment.putting import change_at, good_puts, homes_behind, table_behind
from plainmoment.roads import Road, Setting
from plainmoment.runs import Run
from plainmoment.seeking import first_moment, soonest_moments
from plainmoment.tapes import played_back, tape_of
from plainmoment.texts import read_live, write_live
from tests.samples import (COUNTDOWN, Machine, Odd, Told, chance_of, changed_run, plain, procedures_of, random_legs,
                           random_run, random_setting)
from tests.test_hands import command_by_chance


def states_anew(run):
    """The states of a run, done anew from the rows, the inputs and the changes alone."""
    machine = Machine(procedures_of(run.program()), run.inputs())
    states = []
    while True:
        for t, born, variable, value in run.changes():
            if t == machine.moment:
                machine.change(born, variable, value)
        states.append(machine.shown())
        if machine.result is not None:
            return states
        machine.step()


def some_settings(seed, many, most=40):
    chance = chance_of(seed)
    for _ in range(many):
        yield chance, random_setting(chance, most)


class Everywhere(Told):
    def test_objects_are_equal_only_to_those_of_their_own_class(self):
        def made():
            program = plain((("copy", "x", 1), ("back", "x")))
            setting = Setting(program)
            return [program, Run(program), Made(program), Kept(Run(program), [0]), Edit.same(program), setting, Road(setting),
                    Live(setting)]

        ones, others = made(), made()
        for at, one in enumerate(ones):
            for to, other in enumerate([*others, None, 0, (), [], "", Console()]):
                self.assertIs(one == other, at == to)
                self.assertIs(one != other, at != to)

    def test_what_was_handed_in_may_change_later(self):
        rows = [("main", (), (("get", "x"), ("copy", "y", "x"), ("back", "y")))]
        inputs, changes, moments = [5], [(1, 0, "x", 2)], [0, 2]
        program = Program(rows)
        run = Run(program, inputs, changes)
        kept = Kept(run, moments)
        pairs, mades = [(("main", 0), ("main", 0))], [(("main", 1, 1), (("copy", "y", "x"),), (0, 1))]
        edit, code = Edit(program, program, pairs), Made(program, mades)
        setting = Setting(program, inputs, stretches=mades, edits=(edits := [edit]))
        legs = [("change", 1, 0, "x", 3)]
        road = Road(setting, legs)
        for told in (rows, inputs, changes, moments, pairs, mades, edits, legs):
            told.clear()
        self.assertEqual((program.names(), run.inputs(), run.changes(), kept.moments()), (["main"], (5,), ((1, 0, "x", 2),), (0, 2)))
        self.assertEqual((len(edit.pairs()), len(code.listed()), setting.inputs(), len(setting.edits())), (1, 1, (5,), 1))
        self.assertEqual((road.legs(), road.run().result()), ((("change", 1, 0, "x", 3),), 3))

    def test_what_is_handed_out_is_new(self):
        program = COUNTDOWN
        setting = Setting(program, [2])
        run = setting.main_run()
        asked = [program.names, program.spots, lambda: program.variables_of("main"), lambda: come_spots(program),
                 lambda: landings(run, Edit.same(program)), lambda: journey_moments(run, [("on", 1)]),
                 lambda: Road(setting).gone_at(0), lambda: shortest_to(setting, ((), 3, None)), setting.code().listed,
                 Edit.same(program).pairs, lambda: Live(setting, many=2).hands_with(0),
                 lambda: least_sets(program, [2], [(1, 0, "n", 1)], ("result", 1)), lambda: whole_blame(run, None),
                 lambda: places_behind(setting, home_place(), [("on", 1)])]
        for ask in asked:
            told = ask()
            again = list(told)
            told.append(None)
            self.assertEqual(ask(), again)

    def test_truths_are_no_numbers(self):
        program = plain((("get", "x"), ("back", "x")))
        setting = Setting(program, [1])
        self.assertIs(is_place(setting, ((), True, None)), False)
        self.assertIs(is_place(setting, ((("change", True, 0, "x", 1),), 1, None)), False)
        for make in (lambda: Run(program, [True]), lambda: Run(program, [], [(False, 0, "x", 1)]),
                     lambda: Road(setting, [("land", 0, False)]), lambda: Live(setting, many=True),
                     lambda: Live(setting).place(False), lambda: pause_at(setting.main_run(), [], False),
                     lambda: step_cost(setting.main_run(), [False], None, 0), lambda: Live(setting).do(0, ("on", True)),
                     lambda: pause_at(setting.main_run(), [("main", False)], 0), lambda: least_on(True, 1)):
            self.assertRaises(MomentError, make)

    def test_odd_values_are_never_asked(self):
        program = plain((("get", "x"), ("back", "x")))
        setting = Setting(program)
        for value in (Odd(), (Odd(),), [Odd()], (Odd(), Odd(), Odd())):
            self.assertRaises(MomentError, Road, setting, value)
            self.assertRaises(MomentError, seen_at, setting, value)
            self.assertRaises(MomentError, write_live, value)
            self.assertRaises(MomentError, Console().run, value)
            self.assertRaises(MomentError, Live(setting).do, 0, value)


class Letters(Told):
    def test_a_states_hang_on_rows_inputs_and_changes(self):
        for chance, setting in some_settings(1, 25):
            legs, (run, floor, _) = random_legs(chance, setting)
            road = Road(setting, legs)
            self.assertEqual([road.run().state(t) for t in range(run.last() + 1)], states_anew(run))
            self.assertEqual(road.run().last(), run.last())
            self.assertEqual(road.floor(), floor)

    def test_b_what_a_place_shows_is_the_plain_value(self):
        shown = gone = 0
        for chance, setting in some_settings(2, 25):
            main = setting.main_run()
            states = states_anew(main)
            for here in made_moments(setting.code(), main):
                t = plain_moment(setting.code(), main, here)
                if here[1] is None:
                    continue
                for told, frame in zip(seen_at(setting, ((), t, here))[1], states[t][1]):
                    self.assertEqual(told[:3], frame[:3])
                    values = dict(frame[3])
                    self.assertTrue(all(value in (None, values.get(name, 0)) for name, value in told[3]))
                    shown += sum(value is not None for _, value in told[3])
                    gone += sum(value is None for _, value in told[3])
        self.assertGreater(min(shown, gone), 20)

    def test_c_played_back_and_kept(self):
        for chance, setting in some_settings(3, 20):
            _, (run, _, _) = random_legs(chance, setting)
            states = states_anew(run)
            told = played_back(run.program(), run.inputs(), run.changes(), states[-1], tape_of(run))
            self.assertEqual(told, states[::-1])
            moments = even_on(run.last(), 3)
            kept = Kept(run, moments)
            for t in range(run.last() + 1):
                self.assertEqual(kept.come_to(t), states[t])
                self.assertLessEqual(step_cost(run, moments, None, t), least_on(run.last(), 3))

    def test_d_runs_that_agree_about_a_cell(self):
        chance, agreed = chance_of(4), 0
        for _ in range(40):
            run = random_run(chance, 40)
            try:
                other = Run(run.program(), [*run.inputs()[:1], *(chance.randrange(4) for _ in range(3))])
            except TooMany:
                continue
            for t in range(run.last() + 1):
                for frame in run.state(t)[1]:
                    for name in run.program().variables_of(frame[1]):
                        if agree_about(run, other, t, (frame[0], name)):
                            self.assertEqual(run.cell_at(t, (frame[0], name)), other.cell_at(t, (frame[0], name)))
                            agreed += run != other
            first = first_moment(run, 0, ("outputs", 1))
            self.assertEqual(first, next((t for t, state in enumerate(states_anew(run)) if state[3]), None))
            self.assertEqual(soonest_moments(run, 0, [("ended",)]), (run.last(),))
        self.assertGreater(agreed, 100)

    def test_e_runs_that_meet_do_the_same_from_there_on(self):
        chance, met = chance_of(5), 0
        for _ in range(60):
            run = changed_run(chance, 60)
            try:
                main = Run(run.program(), run.inputs())
            except TooMany:
                continue
            pair = first_meeting(run, main)
            if pair is not None:
                t, u = pair
                self.assertEqual(run.outputs()[len(run.state(t)[3]):], main.outputs()[len(main.state(u)[3]):])
                self.assertEqual((run.result(), run.last() - t), (main.result(), main.last() - u))
                self.assertEqual([run.spot_at(at) for at in range(t, run.last())],
                                 [main.spot_at(at) for at in range(u, main.last())])
                met += 1
            lean = Run(run.program(), run.inputs(), lean_changes(run))
            self.assertEqual(states_anew(lean), states_anew(run))
        self.assertGreater(met, 10)

    def test_f_landings_put_out_what_the_new_program_puts_out(self):
        landed = put = 0
        for chance, setting in some_settings(6, 30):
            run = setting.main_run()
            edits = [edit for edit in setting.edits() if edit.old() == run.program()]
            for edit in edits:
                try:
                    own = own_run(run, edit)
                except TooMany:
                    continue
                for t, to in landings(run, edit):
                    self.assertEqual(led_on(run, edit, t), (own.outputs(), own.result()))
                    self.assertEqual(own.state(to)[3], run.state(t)[3])
                for made in setting.code().listed():
                    for begin in begins(run, made)[:2]:
                        for stop in landing_stops(run, edit, made, begin):
                            to = made_goal(run, edit, made, begin, stop)
                            values = dict(own.state(to)[1][-1][3])
                            shown = made_shown(run, edit, made, begin, stop)
                            self.assertTrue(all(value in (None, values.get(name, 0)) for name, value in shown.items()))
                            landed += 1
            for made in setting.code().listed():
                for begin in begins(run, made)[:1]:
                    put += self.check_puts(chance, run, made, begin)
        self.assertGreater(min(landed, put), 20)

    def check_puts(self, chance, run, made, begin):
        """A good put ends as the branch does in which the variable was put otherwise at the plain moment."""
        program, done = run.program(), 0
        values = dict(run.state(begin)[1][-1][3])
        for stop in range(len(made[1]) + 1):
            for variable, place in table_at(program, made, stop).items():
                for put in [] if place is None else good_puts(program, made, stop, variable)[:1]:
                    value = chance.randrange(9973)
                    try:
                        branch = Run(program, run.inputs(), [change_at(run, made, begin, stop, variable, value)])
                    except TooMany:
                        continue
                    end = branch.state(begin + made[2][-1])[1][-1]
                    homes = homes_behind(program, made, stop, variable, put, value, values)
                    self.assertEqual(homes, {name: dict(end[3]).get(name, 0) for name in homes})
                    self.assertEqual(table_behind(program, made, stop, variable, put)[-1], {name: name for name in homes})
                    done += 1
        return done

    def test_g_counters_and_pauses(self):
        bounded = 0
        for chance, setting in some_settings(7, 30):
            run, program = setting.main_run(), setting.program()
            for name in program.names():
                counters = cheapest_counters(program, name)
                for t in chance.sample(range(run.last() + 1), min(run.last(), 3)):
                    counts = counts_at(run, t, name)
                    counted = {arc: counts[arc] for arc in counters}
                    self.assertEqual(counts_by(program, name, standing_at(run, t, name), counted), counts)
                    self.assertEqual(list(counts), arcs_of(program, name))
            looks = chance.sample(program.spots(), len(program.spots()) // 2)
            bound = bound_of(program, looks)
            if bound is not None:
                self.assertLessEqual(max(pause_at(run, looks, t) for t in range(run.last() + 1)), bound)
                bounded += 1
        self.assertGreater(bounded, 5)

    def test_h_hands_and_journeys(self):
        for chance, setting in some_settings(8, 20):
            live, alone = Live(setting, many=3), Live(setting)
            for _ in range(15):
                hand = chance.randrange(3)
                command = command_by_chance(chance, setting, live.place(hand))
                try:
                    live.do(hand, command)
                except (MomentError, TooMany):
                    continue
                if hand == 1:
                    alone.do(0, command)
            self.assertEqual((live.place(1), live.sees(1), live.line(1)), (alone.place(0), alone.sees(0), alone.line(0)))
            for hand in live.hands_with(0):
                self.assertTrue(see_alike(setting, live.place(hand), live.place(0)))
                self.assertEqual(live.sees(hand), live.sees(0))
            run = setting.main_run()
            t = chance.randrange(run.last() + 1)
            for journey in ([("on", t)], [("on", run.last()), ("back", run.last() - t)], [("from", t // 2, t)]):
                self.assertEqual(journey_moments(run, journey)[-1], t)
                other = Run(run.program(), run.inputs(), journey_changes(run, journey))
                self.assertEqual(other.state(t), run.state(t))

    def test_i_two_what_ifs_and_least_sets(self):
        chance, done = chance_of(9), 0
        while done < 15:
            run = random_run(chance, 40)
            lots = []
            for _ in range(2):
                t = chance.randrange(run.last())
                frame = chance.choice(run.state(t)[1])
                names = run.program().variables_of(frame[1])
                if names:
                    lots.append((t, frame[0], chance.choice(names), chance.randrange(9973)))
            try:
                one, other = [Run(run.program(), run.inputs(), [lot]) for lot in lots]
            except (TooMany, NoChanges, ValueError):
                continue
            if not are_apart(one, other):
                continue
            self.assertEqual(states_anew(joined_run(one, other)), [put_together(one, other, t) for t in range(run.last() + 1)])
            wish = ("result", run_of(run.program(), run.inputs(), lots, (0, 1)).result())
            for least in least_sets(run.program(), run.inputs(), lots, wish):
                self.assertLessEqual(len(least), 1)
            done += 1

    def test_j_what_is_written_or_taken_back(self):
        for chance, setting in some_settings(10, 15):
            live = Live(setting, many=2)
            for _ in range(10):
                hand = chance.randrange(2)
                before = live.twin()
                try:
                    live.do(hand, command_by_chance(chance, setting, live.place(hand)))
                except (MomentError, TooMany):
                    self.assertTrue(live == before and len(live) == len(before))
                    continue
                live.back()
                self.assertTrue(live == before and len(live) == len(before))
                live.again()
                again = live.twin()
                live.trying(lambda session: [session.do(0, ("home",)), session.do(1, ("home",))])
                self.assertTrue(live == again and len(live) == len(again))
            self.assertTrue(read_live(write_live(live)) == live)


if __name__ == "__main__":
    unittest.main()
