"""Promise [8]: kept states, their reaches, and the roads from them; and of [0.2] (c)."""

import itertools
import unittest

from plainmoment import keptstates
from plainmoment.errors import NoCount, NoMoment, NoRun
from plainmoment.keptstates import Kept, even_both, even_on, least_both, least_on, reach_both, reach_on
from plainmoment.runs import Run
from tests.samples import CALLER, COUNTDOWN, Told, changed_run, chance_of, odd_values, plain

NUMBERS = [None, True, False, -1, 601, 10 ** 60, 1.0, "1", (1,), [1]]


def counted_on(last, moments):
    return max(min(t - moment for moment in moments if moment <= t) for t in range(last + 1))


def counted_both(last, moments):
    return max(min(abs(t - moment) for moment in moments) for t in range(last + 1))


def lots(last, many):
    for size in range(1, many + 1):
        yield from itertools.combinations(range(last + 1), size)


class Reaches(Told):
    def test_examples(self):
        self.assertEqual(reach_on(0, (0,)), 0)
        self.assertEqual(reach_on(9, [0]), 9)
        self.assertEqual(reach_on(9, (0, 4, 9)), 4)
        self.assertEqual(reach_on(9, (0, 4)), 5)
        self.assertEqual(reach_both(0, [0]), 0)
        self.assertEqual(reach_both(9, (9,)), 9)
        self.assertEqual(reach_both(9, (4,)), 5)
        self.assertEqual(reach_both(9, (2, 7)), 2)
        self.assertEqual(reach_both(9, (1, 8)), 3)
        self.assertEqual(reach_both(600, tuple(range(601))), 0)

    def test_counted_moment_by_moment(self):
        for last in range(9):
            for moments in lots(last, last + 1):
                self.assertEqual(reach_both(last, moments), counted_both(last, moments))
                if moments[0] == 0:
                    self.assertEqual(reach_on(last, list(moments)), counted_on(last, moments))

    def test_long_ones(self):
        chance = chance_of(801)
        for _ in range(200):
            last = chance.randrange(601)
            moments = sorted({0, *(chance.randrange(last + 1) for _ in range(chance.randrange(9)))})
            self.assertEqual(reach_on(last, moments), counted_on(last, moments))
            self.assertEqual(reach_both(last, moments), counted_both(last, moments))
            self.assertEqual(reach_both(last, moments[1:] or [0]), counted_both(last, moments[1:] or [0]))

    def test_least_of_all_choices(self):
        for last in range(11):
            for many in range(1, 6):
                self.assertEqual(least_on(last, many), min(
                    counted_on(last, moments) for moments in lots(last, many) if moments[0] == 0))
                self.assertEqual(least_both(last, many), min(
                    counted_both(last, moments) for moments in lots(last, many)))

    def test_least_by_its_words(self):
        for last in list(range(40)) + [599, 600]:
            for many in list(range(1, 45)) + [600, 601, 602, 10 ** 60]:
                self.assertEqual(least_on(last, many), -((last + 1) // -many) - 1)
                least = least_both(last, many)
                self.assertGreaterEqual(many * (2 * least + 1), last + 1)
                self.assertTrue(least == 0 or many * (2 * least - 1) < last + 1)

    def test_even_ones(self):
        self.assertEqual(even_on(9, 3), (0, 4, 8))
        self.assertEqual(even_on(9, 1), (0,))
        self.assertEqual(even_on(9, 10), tuple(range(10)))
        self.assertEqual(even_on(0, 1), (0,))
        self.assertEqual(even_both(9, 1), (5,))
        self.assertEqual(even_both(9, 2), (2, 7))
        self.assertEqual(even_both(10, 2), (3, 10))
        self.assertEqual(even_both(6, 3), (1, 4, 6))
        self.assertEqual(even_both(0, 1), (0,))
        self.assertEqual(even_both(1, 1), (1,))
        self.assertEqual(even_both(600, 10 ** 60), tuple(range(601)))
        self.assertEqual(even_on(600, 10 ** 60), tuple(range(601)))

    def test_even_ones_by_their_words(self):
        for last in list(range(30)) + [311, 599, 600]:
            for many in list(range(1, 33)) + [99, 600, 601, 777]:
                on, both = least_on(last, many), least_both(last, many)
                told = even_both(last, many)
                wanted = []
                moment = both
                while moment <= last + both:
                    wanted.append(last if moment > last else moment)
                    moment += 2 * both + 1
                self.assertEqual(told, tuple(wanted))
                self.assertEqual(even_on(last, many), tuple(t for t in range(last + 1) if t % (on + 1) == 0))
                self.assertLessEqual(len(told), many)
                self.assertLessEqual(len(even_on(last, many)), many)
                self.assertEqual(reach_both(last, told), both)
                self.assertEqual(reach_on(last, even_on(last, many)), on)

    def test_no_count(self):
        for function in (reach_on, reach_both):
            for last in NUMBERS:
                self.assertIs(self.told(NoCount, function, last, None), last)
        for function in (least_on, least_both, even_on, even_both):
            for last in NUMBERS:
                self.assertIs(self.told(NoCount, function, last, 0), last)
            for many in (None, True, 0, -1, 1.0, "1", [1]):
                self.assertIs(self.told(NoCount, function, 5, many), many)

    def test_no_moments(self):
        for function in (reach_on, reach_both):
            for moments in (None, True, 0, "0", {0: 0}, (), [], {0}, range(3)):
                self.assertIsNone(self.told(NoMoment, function, 5, moments))
            for moment in (None, True, False, -1, 6, 10 ** 60, 0.0, "0", (0,)):
                self.assertIs(self.told(NoMoment, function, 5, (0, moment)), moment)
            self.assertEqual(self.told(NoMoment, function, 5, (-1, 3)), -1)
            self.assertEqual(self.told(NoMoment, function, 5, (0, 0)), 0)
            self.assertEqual(self.told(NoMoment, function, 5, (0, 3, 3)), 3)
            self.assertEqual(self.told(NoMoment, function, 5, [0, 3, 2, 9]), 2)
            self.assertEqual(self.told(NoMoment, function, 5, [0, 9, 2]), 9)
        self.assertEqual(self.told(NoMoment, reach_on, 5, (1, 3)), 1)
        self.assertEqual(self.told(NoMoment, reach_on, 5, (2, 9)), 2)
        self.assertEqual(self.told(NoMoment, reach_on, 5, (7, 3)), 7)
        self.assertIs(self.told(NoMoment, reach_both, 5, (False, 3)), False)
        self.assertEqual(reach_both(5, (1, 3)), 2)

    def test_named(self):
        self.assertEqual(reach_on(last=3, moments=[0, 2]), 1)
        self.assertEqual(even_both(last=3, many=2), (1, 3))


class KeptStates(Told):
    def test_roads(self):
        run = Run(COUNTDOWN, [2])
        kept = Kept(run, [0, 4, 9])
        self.assertEqual(kept.moments(), (0, 4, 9))
        told = [kept.road_to(t) for t in range(13)]
        self.assertEqual(told, [(0, "on"), (0, "on"), (0, "on"), (4, "back"), (4, "on"), (4, "on"), (4, "on"),
                                (9, "back"), (9, "back"), (9, "on"), (9, "on"), (9, "on"), (9, "on")])

    def test_the_lesser_of_two(self):
        kept = Kept(Run(COUNTDOWN, [2]), (0, 4, 8))
        self.assertEqual(kept.road_to(2), (0, "on"))
        self.assertEqual(kept.road_to(6), (4, "on"))
        self.assertEqual(kept.road_to(7), (8, "back"))

    def test_a_branch(self):
        run = Run(COUNTDOWN, [2], [(0, 0, "n", 7), (3, 0, "s", 5), (3, 0, "s", 6), (7, 0, "n", 1), (7, 0, "s", 7)])
        for moments in ([0], [0, 3], (0, 7), (0, 2, 4), (0, run.last()), (0, 6, 8, run.last())):
            kept = Kept(run, moments)
            for t in range(run.last() + 1):
                self.assertEqual(kept.come_to(t), run.state(t), (moments, t))

    def test_branches_by_chance(self):
        chance = chance_of(802)
        for _ in range(60):
            run = changed_run(chance, 60)
            moments = sorted({0, *(chance.randrange(run.last() + 1) for _ in range(chance.randrange(5)))})
            kept = Kept(run, moments)
            for t in range(run.last() + 1):
                self.assertEqual(kept.come_to(t), run.state(t))
                moment, word = kept.road_to(t)
                self.assertEqual(abs(t - moment), min(abs(t - one) for one in moments))
                self.assertEqual(word, "on" if moment <= t else "back")
                self.assertNotIn(2 * t - moment, [one for one in moments if one < moment])

    def test_come_to_goes_by_the_kept_states_alone(self):
        run = Run(CALLER, [3])
        kept = Kept(run, (0, 8))
        asked = []
        state, step = Run.state, keptstates.led_on_by_step

        def counted(*arguments):
            asked.append(1)
            return step(*arguments)

        try:
            Run.state = None
            keptstates.led_on_by_step = counted
            self.assertEqual(kept.come_to(11)[0], 11)
        finally:
            Run.state = state
            keptstates.led_on_by_step = step
        self.assertEqual(len(asked), 3)
        self.assertEqual(kept.come_to(11), run.state(11))

    def test_equal(self):
        run = Run(COUNTDOWN, [2])
        kept = Kept(run, [0, 4])
        self.assertTrue(kept == Kept(Run(COUNTDOWN, (2,)), (0, 4)))
        self.assertFalse(kept != Kept(Run(COUNTDOWN, (2,)), (0, 4)))
        self.assertFalse(kept == Kept(run, (0, 5)))
        self.assertFalse(kept == Kept(run, (0,)))
        self.assertFalse(kept == Kept(Run(COUNTDOWN, [3]), (0, 4)))
        self.assertFalse(kept == Kept(Run(COUNTDOWN, [2], [(0, 0, "n", 0)]), (0, 4)))
        for other in (None, run, (0, 4), 0):
            self.assertFalse(kept == other)

    def test_copies(self):
        moments = [0, 4]
        kept = Kept(Run(COUNTDOWN, [2]), moments)
        moments.append(9)
        self.assertEqual(kept.moments(), (0, 4))
        self.assertEqual(kept.road_to(9), (4, "on"))

    def test_errors(self):
        run = Run(COUNTDOWN, [2])
        self.refuses_all(NoRun, odd_values(), Kept, behind=(None,))
        for moments in (None, (), [], 0, {0: 1}):
            self.assertIsNone(self.told(NoMoment, Kept, run, moments))
        self.assertEqual(self.told(NoMoment, Kept, run, [1]), 1)
        self.assertEqual(self.told(NoMoment, Kept, run, [0, 13]), 13)
        self.assertEqual(self.told(NoMoment, Kept, run, [0, 5, 5]), 5)
        self.assertIs(self.told(NoMoment, Kept, run, [False]), False)
        kept = Kept(run, [0, 12])
        for function in (kept.road_to, kept.come_to):
            self.refuses_all(NoMoment, [value for value in odd_values()] + [13], function)

    def test_a_run_of_no_steps_but_one(self):
        kept = Kept(Run(plain([("back", 3)])), [0, 1])
        self.assertEqual(kept.come_to(1), (1, (), 0, (), 3))
        self.assertEqual(Kept(Run(plain([("back", 3)])), [0]).road_to(1), (0, "on"))


if __name__ == "__main__":
    unittest.main()
