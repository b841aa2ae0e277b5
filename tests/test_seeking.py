"""Promise [10]: conditions, where they hold, and the moments told of them; and of [0.2] (d)."""

import itertools
import unittest

from plainmoment.errors import NoCondition, NoMoment, NoProgram, NoRun
from plainmoment.runs import Run
from plainmoment.seeking import (cells_in, first_moment, follows_at, holds_at, is_condition, last_moment, next_moment,
                                 soonest_moments, spells_of)
from tests.samples import CALLER, COUNTDOWN, Odd, Told, changed_run, chance_of, odd_values

END = ("ended",)


def right_ones():
    """Conditions of CALLER, at their bounds too."""
    return [
        ("cell", 0, "x", 0), ("cell", 600, "long", 9972), ("above", 0, "none", 0), ("above", 600, "z", 9972),
        ("row", ("main", 0)), ("row", ("sum", 5)), ("beneath", ("main", 4)), ("beneath", ("dbl", 1)),
        ("output", 0, 0), ("output", 600, 9972), ("outputs", 0), ("outputs", 600), ("depth", 0), ("depth", 600), END,
        ("not", END), ("both", END, END), ("either", END, ("depth", 1)),
        ("not", ("not", END)), ("both", ("not", END), ("either", END, ("row", ("sum", 0)))),
    ]


def wrong_ones():
    """Values that are near to conditions of CALLER."""
    return [
        ("cell", -1, "x", 0), ("cell", 601, "x", 0), ("cell", True, "x", 0), ("cell", 0, "X", 0), ("cell", 0, "", 0),
        ("cell", 0, "abcde", 0), ("cell", 0, "x", -1), ("cell", 0, "x", 9973), ("cell", 0, "x", False),
        ("cell", 0, "x", 1.0), ("cell", 0, "x"), ("cell", 0, "x", 1, 1), ["cell", 0, "x", 1], ("cell", Odd(), "x", 1),
        ("cell", 0, Odd(), 1), ("cell", 0, "x", Odd()), ("cell", 0, b"x", 1), ("cell", 0, None, 1),
        ("above", 601, "x", 0), ("above", 0, "x", 9973), ("above", 0, "x"), ("above", 0, 5, 5),
        ("row", ("main", 5)), ("row", ("main", -1)), ("row", ("none", 0)), ("row", "main", 0), ("row", ["main", 0]),
        ("row", ("main", False)), ("row", ("main", 0, 0)), ("row",), ("row", None), ("row", Odd()),
        ("row", ("main", Odd())), ("beneath", ("dbl", 2)), ("beneath", ("dbl", True)), ("beneath", "dbl", 1),
        ("output", 0), ("output", -1, 0), ("output", 601, 0), ("output", 0, 9973), ("output", 0, 0, 0),
        ("output", True, 0), ("output", 0, None), ("outputs",), ("outputs", 601), ("outputs", -1), ("outputs", True),
        ("outputs", 1, 1), ("depth",), ("depth", 601), ("depth", -1), ("depth", False), ("depth", 1.0), ("depth", 1, 1),
        ("ended", 1), "ended", ["ended"], ("Ended",), ("",), (None,), ("not",), ("not", END, END), ("not", "ended"),
        ("not", ["ended"]), ("not", None), ("both", END), ("both", END, END, END), ("both", END, None),
        ("both", Odd(), END), ("either", END), ("either", ("ended", 1), END), ("either", END, ("row", ("sum", 6))),
        ("not", ("row", ("sum", 6))), ("is", END), ("and", END, END), (b"ended",),
        ("not", ("not", ("not", END))), ("both", END, ("not", ("not", END)), END),
        ("both", END, ("not", ("either", END, END))) + (END,), ("either", ("both", END, ("not", END)), END, END),
        ("both", ("either", ("not", END), END), END), ("not", ("both", END, ("not", END))),
    ]


def four_deep():
    return [("not", ("not", ("not", END))), ("both", ("either", ("not", END), END), END),
            ("not", ("both", END, ("not", END)))]


def condition_by_chance(chance, run, deep):
    """A condition that asks for what the run has somewhere."""
    if deep > 1 and chance.random() < 0.6:
        word = chance.choice(("not", "both", "either"))
        return (word, *(condition_by_chance(chance, run, deep - 1) for _ in range(1 if word == "not" else 2)))
    moment, frames, _, outputs, _ = run.state(chance.randrange(run.last() + 1))
    word = chance.choice(("cell", "above", "row", "beneath", "output", "outputs", "depth", "ended"))
    if word in ("cell", "above"):
        frame = chance.choice(frames) if frames else (0, "main", 0, ())
        values = dict(frame[3])
        name = chance.choice(run.program().variables_of(frame[1]) or ["x"])
        return (word, frame[0], name, max(0, values.get(name, 0) - (word == "above" and chance.randrange(2))))
    if word in ("row", "beneath"):
        return (word, chance.choice(frames)[1:3] if frames else ("main", 0))
    if word == "output":
        number = chance.randrange(3)
        return (word, number, outputs[number] if len(outputs) > number else chance.randrange(3))
    return {"outputs": (word, len(outputs)), "depth": (word, len(frames)), "ended": END}[word]


def holds_anew(run, t, condition):
    _, frames, _, outputs, _ = run.state(t)
    word, parts = condition[0], condition[1:]
    if word in ("cell", "above"):
        born, name, value = parts
        for frame in frames:
            if frame[0] == born and name in run.program().variables_of(frame[1]):
                held = dict(frame[3]).get(name, 0)
                return held == value if word == "cell" else held > value
        return False
    if word == "row":
        return [frame[1:3] for frame in frames][-1:] == [parts[0]]
    if word == "beneath":
        return parts[0] in [frame[1:3] for frame in frames][:-1]
    if word == "output":
        return list(outputs)[parts[0]:parts[0] + 1] == [parts[1]]
    if word in ("outputs", "depth"):
        return len(outputs if word == "outputs" else frames) >= parts[0]
    if word == "ended":
        return t == run.last()
    held = [holds_anew(run, t, part) for part in parts]
    return {"not": not held[0], "both": all(held), "either": any(held)}[word]


class Conditions(Told):
    def test_right_ones(self):
        for condition in right_ones():
            self.assertIs(is_condition(CALLER, condition), True, condition)

    def test_wrong_ones(self):
        self.likes_none(odd_values() + wrong_ones(), is_condition, CALLER)

    def test_three_deep_and_four_deep(self):
        self.assertTrue(is_condition(CALLER, ("both", ("either", END, END), ("not", ("depth", 2)))))
        self.likes_none(four_deep(), is_condition, CALLER)

    def test_spots_are_those_of_the_program(self):
        self.assertTrue(is_condition(COUNTDOWN, ("row", ("main", 6))))
        self.assertFalse(is_condition(CALLER, ("row", ("main", 6))))
        self.assertFalse(is_condition(COUNTDOWN, ("beneath", ("sum", 0))))
        self.assertFalse(is_condition(COUNTDOWN, ("not", ("both", END, ("beneath", ("sum", 0))))))

    def test_errors(self):
        self.refuses_all(NoProgram, odd_values(), is_condition, behind=(END,))

    def test_cells(self):
        self.assertEqual(cells_in(END), ())
        self.assertEqual(cells_in(("row", ("any", 11))), ())
        self.assertEqual(cells_in(("cell", 5, "x", 3)), ((5, "x"),))
        self.assertEqual(cells_in(("both", ("above", 5, "x", 3), ("not", ("cell", 5, "x", 9)))), ((5, "x"),))
        self.assertEqual(cells_in(("either", ("both", ("cell", 10, "a", 3), ("above", 9, "b", 1)),
                                   ("both", ("cell", 9, "a", 0), ("row", ("zz", 3))))), ((9, "a"), (9, "b"), (10, "a")))

    def test_cells_of_no_condition(self):
        near = [("row", ("main", 12)), ("beneath", ("Main", 0)), ("not", ("row", ("main", True)))]
        self.refuses_all(NoCondition, odd_values() + near + four_deep() + [("cell", 601, "x", 1)], cells_in)


class Holding(Told):
    def test_each_kind(self):
        run = Run(CALLER, [4], [(5, 0, "y", 9)])
        told = {
            ("cell", 0, "x", 4): set(range(1, run.last())), ("cell", 2, "p", 8): {3}, ("cell", 2, "p", 4): {2},
            ("cell", 2, "q", 0): set(), ("cell", 0, "y", 8): {4}, ("cell", 0, "y", 0): {0, 1, 2, 3},
            ("above", 0, "y", 8): set(range(5, run.last())), ("above", 0, "y", 9): set(),
            ("above", 0, "y", 0): set(range(4, run.last())), ("row", ("main", 1)): {1}, ("row", ("dbl", 1)): {3},
            ("beneath", ("main", 1)): {2, 3}, ("output", 0, 8): set(), ("output", 0, 9): set(),
            ("outputs", 0): set(range(run.last() + 1)), ("outputs", 1): set(range(5, run.last() + 1)),
            ("outputs", 2): set(), ("depth", 0): set(range(run.last() + 1)), ("depth", 1): set(range(run.last())),
            ("ended",): {run.last()}, ("not", ("depth", 1)): {run.last()},
            ("both", ("depth", 2), ("row", ("dbl", 0))): {2}, ("either", ("row", ("main", 0)), END): {0, run.last()},
        }
        told["output", 0, run.outputs()[0]] = set(range(5, run.last() + 1))
        for condition, moments in told.items():
            if condition[:2] == ("output", 0) and condition[2] != run.outputs()[0]:
                moments = set()
            found = {t for t in range(run.last() + 1) if holds_at(run, t, condition)}
            self.assertEqual(found, moments, condition)

    def test_a_change_counts_from_its_moment_on(self):
        run = Run(COUNTDOWN, [2], [(3, 0, "s", 5)])
        self.assertIs(holds_at(run, 2, ("cell", 0, "s", 5)), False)
        self.assertIs(holds_at(run, 3, ("cell", 0, "s", 5)), True)

    def test_a_variable_of_another_procedure(self):
        run = Run(CALLER, [4])
        self.assertFalse(holds_at(run, 2, ("cell", 0, "p", 0)))
        self.assertFalse(holds_at(run, 2, ("cell", 2, "q", 0)))
        self.assertTrue(holds_at(run, 2, ("cell", 0, "z", 0)))
        self.assertFalse(holds_at(run, 2, ("cell", 1, "x", 0)))
        self.assertTrue(holds_at(run, 2, ("not", ("cell", 1, "x", 0))))

    def test_the_frame_on_top_is_not_beneath(self):
        run = Run(CALLER, [4])
        self.assertFalse(holds_at(run, 1, ("beneath", ("main", 1))))
        self.assertFalse(holds_at(run, 2, ("row", ("main", 1))))

    def test_by_chance(self):
        chance = chance_of(1001)
        for _ in range(60):
            run = changed_run(chance, 120)
            for _ in range(12):
                condition = condition_by_chance(chance, run, 3)
                held = [t for t in range(run.last() + 1) if holds_anew(run, t, condition)]
                self.assertEqual([t for t in range(run.last() + 1) if holds_at(run, t, condition) is True], held)
                spells = spells_of(run, condition)
                self.assertEqual([t for first, last in spells for t in range(first, last + 1)], held)
                self.assertTrue(all(one[1] + 1 < other[0] for one, other in zip(spells, spells[1:])))
                t = chance.randrange(run.last() + 1)
                self.assertEqual(first_moment(run, t, condition), min([u for u in held if u >= t], default=None))
                self.assertEqual(next_moment(run, t, condition), min([u for u in held if u > t], default=None))
                self.assertEqual(last_moment(run, t, condition), max([u for u in held if u < t], default=None))


class Seeking(Told):
    def test_spells(self):
        run = Run(COUNTDOWN, [2])
        self.assertEqual(spells_of(run, ("row", ("main", 2))), ((2, 2), (6, 6), (10, 10)))
        self.assertEqual(spells_of(run, ("not", ("row", ("main", 2)))), ((0, 1), (3, 5), (7, 9), (11, 12)))
        self.assertEqual(spells_of(run, END), ((12, 12),))
        self.assertEqual(spells_of(run, ("depth", 0)), ((0, 12),))
        self.assertEqual(spells_of(run, ("depth", 2)), ())

    def test_moments(self):
        run = Run(COUNTDOWN, [2])
        row = ("row", ("main", 2))
        self.assertEqual([first_moment(run, t, row) for t in (0, 2, 3, 10, 11, 12)], [2, 2, 6, 10, None, None])
        self.assertEqual([next_moment(run, t, row) for t in (0, 2, 3, 10, 11, 12)], [2, 6, 6, None, None, None])
        self.assertEqual([last_moment(run, t, row) for t in (0, 2, 3, 10, 11, 12)], [None, None, 2, 6, 10, 10])
        self.assertEqual(first_moment(run, 12, END), 12)
        self.assertIsNone(next_moment(run, 12, END))
        self.assertIsNone(last_moment(run, 12, END))
        self.assertEqual(last_moment(run, 1, ("depth", 1)), 0)

    def test_soonest(self):
        run = Run(COUNTDOWN, [2])
        row = ("row", ("main", 2))
        self.assertEqual(soonest_moments(run, 0, [row]), (2,))
        self.assertEqual(soonest_moments(run, 2, (row, row)), (2, 6))
        self.assertEqual(soonest_moments(run, 3, (row, row)), (6, 10))
        self.assertEqual(soonest_moments(run, 0, (row, END)), (2, 12))
        self.assertEqual(soonest_moments(run, 0, (("depth", 1),) * 6), (0, 1, 2, 3, 4, 5))
        self.assertIsNone(soonest_moments(run, 3, (row, row, row)))
        self.assertIsNone(soonest_moments(run, 0, (END, row)))
        self.assertIsNone(soonest_moments(run, 0, (END, END)))

    def test_soonest_of_all(self):
        chance = chance_of(1002)
        none = 0
        for _ in range(60):
            run = changed_run(chance, 14)
            conditions = [condition_by_chance(chance, run, 2) for _ in range(chance.randrange(1, 4))]
            t = chance.randrange(run.last() + 1)
            ways = [way for way in itertools.combinations(range(t, run.last() + 1), len(conditions))
                    if all(holds_anew(run, u, one) for u, one in zip(way, conditions))]
            told = soonest_moments(run, t, conditions)
            if not ways:
                self.assertIsNone(told)
                none += 1
                continue
            self.assertEqual(told, tuple(min(way[at] for way in ways) for at in range(len(conditions))))
            for way in itertools.product(range(run.last() + 2), repeat=len(conditions)):
                self.assertIs(follows_at(run, t, conditions, way), way in ways)
        self.assertTrue(5 < none < 50)

    def test_follows(self):
        run = Run(COUNTDOWN, [2])
        row = ("row", ("main", 2))
        self.assertIs(follows_at(run, 2, [row, END], (2, 12)), True)
        self.assertIs(follows_at(run, 2, [row, END], (10, 12)), True)
        self.likes_none(odd_values() + [
            [2, 12], (2,), (2, 12, 12), (2, 11), (3, 12), (6, 13), (12, 2), (2, 12.0), (2, None), (2, Odd()),
            (None, 12)], follows_at, run, 2, [row, END])
        self.assertFalse(follows_at(run, 3, [row, END], (2, 12)))
        self.assertFalse(follows_at(run, 0, [row, row], (2, 2)))
        self.assertFalse(follows_at(run, 0, [("depth", 1)] * 2, (False, True)))
        self.assertTrue(follows_at(run, 0, [("depth", 1)] * 2, (0, 1)))

    def test_errors(self):
        run = Run(CALLER, [4])
        past = run.last() + 1
        for function in (holds_at, first_moment, next_moment, last_moment):
            self.refuses_all(NoRun, odd_values(), function, behind=(None, None))
            self.refuses_all(NoMoment, odd_values() + [past], function, run, behind=(None,))
            self.refuses_all(NoCondition, odd_values() + wrong_ones(), function, run, 0)
        self.refuses_all(NoRun, odd_values(), spells_of, behind=(None,))
        self.refuses_all(NoCondition, odd_values() + wrong_ones(), spells_of, run)
        self.refuses_all(NoRun, odd_values(), soonest_moments, behind=(None, None))
        self.refuses_all(NoRun, odd_values(), follows_at, behind=(None, None, None))
        for function, behind in ((soonest_moments, ()), (follows_at, (None,))):
            self.refuses_all(NoMoment, odd_values() + [past], function, run, behind=(None, *behind))
            for conditions in (None, (), [], 0, {0: 1}, "ended", {END}, [END] * 7, [None] * 7):
                self.assertIsNone(self.told(NoCondition, function, run, 0, conditions, *behind))
            for condition in odd_values() + wrong_ones():
                told = self.told(NoCondition, function, run, 0, [END, condition, None], *behind)
                self.assertIs(told, condition)
        self.assertEqual(soonest_moments(run, past - 1, [END]), (past - 1,))


if __name__ == "__main__":
    unittest.main()
