"""Promise [16]: come spots, ways, bounds, pauses and least looks; of [0.2] (g): no pause is above the bound."""

import unittest
from itertools import combinations

from plainmoment.errors import NoCount, NoLooks, NoMenu, NoMoment, NoProgram, NoRun
from plainmoment.pauses import bound_of, come_spots, is_way, least_looks, longest_way, pause_at
from plainmoment.programs import Program
from plainmoment.runs import Run
from tests.samples import (CALLER, COUNTDOWN, NAMES, Told, chance_of, changed_run, odd_values, plain, random_operand,
                           random_program, random_run)

LINE = plain((("get", "x"), ("if", "x", 3), ("out", 1), ("back", "x")))

# Row 4 of main is never come to, nor is g; f comes back, never does not.
CALLS = Program([
    ("main", (), (("call", "x", "f", (1,)), ("call", "x", "f", (2,)), ("call", "y", "ever", ()), ("out", "y"),
                  ("back", "x"))),
    ("f", ("p",), (("out", "p"), ("back", "p"))),
    ("ever", (), (("out", 1), ("go", 0))),
    ("g", (), (("call", "x", "f", (3,)), ("back", "x"))),
])


def come_anew(program):
    come = set()
    while True:
        more = {(program.names()[0], 0)}
        for name, index in come:
            row = program.row((name, index))
            if row[0] == "call":
                more.add((row[2], 0))
                if any(there == row[2] and program.row((there, at))[0] == "back" for there, at in come):
                    more.add((name, index + 1))
            else:
                more |= set(program.nexts((name, index)))
        if more <= come:
            return come
        come |= more


def steps_anew(program, come, looks, spot, calls):
    """All that a way may come to from a spot, the calls of the way being those told."""
    row = program.row(spot)
    if row[0] == "call":
        found = [((row[2], 0), calls + (spot,))]
    elif row[0] == "back" and calls:
        found = [((calls[-1][0], calls[-1][1] + 1), calls[:-1])]
    elif row[0] == "back":
        found = [((name, index + 1), ()) for name, index in come
                 if program.row((name, index))[0] == "call" and program.row((name, index))[2] == spot[0]]
    else:
        found = [(after, calls) for after in program.nexts(spot)]
    return [(after, left) for after, left in found if after in come and after not in looks]


class Endless(Exception):
    """There are ways of any length."""


def longest_anew(program, come, looks, spot, calls, known):
    """The most spots of a way that begins at a spot, by the calls themselves, not by lengths through callees."""
    # Whoever stands in more frames than there are procedures, and one, has entered one of them anew within itself.
    if known.get((spot, calls), 1) is None or len(calls) > len(program.names()) + 1:
        raise Endless
    if (spot, calls) not in known:
        known[spot, calls] = None
        found = [longest_anew(program, come, looks, after, left, known)
                 for after, left in steps_anew(program, come, looks, spot, calls)]
        known[spot, calls] = 1 + max(found, default=0)
    return known[spot, calls]


def bound_anew(program, looks):
    come = come_anew(program)
    known = {}
    try:
        return max([longest_anew(program, come, looks, spot, (), known) for spot in come if spot not in looks],
                   default=0)
    except Endless:
        return None


def small_row(chance, names, at, many, callees):
    word = chance.choice(("out", "copy", "if", "if", "call", "call", "back", "go"))
    if word == "call" and callees:
        return ("call", "x", chance.choice(callees), ())
    if word == "back":
        return ("back", "x")
    if word in ("if", "go"):
        to = chance.randrange(at + 1, many) if chance.random() < 0.85 else chance.randrange(many)
        return ("if", "x", to) if word == "if" else ("go", to)
    return ("out", random_operand(chance, names)) if word == "out" else ("copy", chance.choice(names), 1)


def small_program(chance):
    """A program that mostly leads on, with few rows."""
    heads = ["main", *chance.sample(("f", "g", "h"), chance.randrange(4))]
    procedures = []
    for at, name in enumerate(heads):
        callees = heads[at + 1:] if chance.random() < 0.9 else heads[1:]
        many = chance.randrange(1, 6)
        rows = [small_row(chance, NAMES, index, many, callees) for index in range(many - 1)]
        rows.append(("back", "x") if chance.random() < 0.95 else ("go", chance.randrange(many)))
        procedures.append((name, (), tuple(rows)))
    return Program(procedures)


def some_looks(chance, program):
    spots = program.spots()
    return chance.sample(spots, min(len(spots), chance.choice((0, 0, 1, 2, 4))))


class Come(Told):
    def test_spots_of_callees_that_come_back_and_of_one_that_does_not(self):
        self.assertEqual(come_spots(CALLS), [("main", 0), ("main", 1), ("main", 2), ("f", 0), ("f", 1), ("ever", 0),
                                             ("ever", 1)])

    def test_both_ways_of_an_if_count_whatever_it_asks(self):
        program = plain((("if", 0, 2), ("back", 1), ("back", 2)))
        self.assertEqual(come_spots(program), [("main", 0), ("main", 1), ("main", 2)])

    def test_rows_behind_a_go_and_a_back_are_not_come_to(self):
        self.assertEqual(come_spots(plain((("go", 2), ("out", 1), ("back", 2)))), [("main", 0), ("main", 2)])

    def test_a_back_that_no_way_comes_to_does_not_come_back(self):
        program = Program([("main", (), (("call", "x", "f", ()), ("back", "x"))),
                           ("f", (), (("go", 0), ("back", 1)))])
        self.assertEqual(come_spots(program), [("main", 0), ("f", 0)])

    def test_a_procedure_within_itself(self):
        program = Program([("main", (), (("call", "x", "f", ()), ("back", "x"))),
                           ("f", (), (("call", "x", "f", ()), ("back", 1)))])
        self.assertEqual(come_spots(program), [("main", 0), ("f", 0)])
        self.assertEqual(come_spots(CALLER), CALLER.spots())

    def test_by_chance(self):
        chance = chance_of(161)
        for _ in range(200):
            program = small_program(chance) if chance.random() < 0.5 else random_program(chance)
            come = come_anew(program)
            self.assertEqual(come_spots(program), [spot for spot in program.spots() if spot in come])

    def test_what_is_run_is_come_to(self):
        chance = chance_of(162)
        for _ in range(40):
            run = changed_run(chance)
            come = come_spots(run.program())
            self.assertTrue(all(run.spot_at(t) in come for t in range(run.last())))

    def test_errors(self):
        self.refuses_all(NoProgram, odd_values(), come_spots)


class Bounds(Told):
    def test_a_line(self):
        self.assertEqual(bound_of(LINE, []), 4)
        self.assertEqual(longest_way(LINE, []), (("main", 0), ("main", 1), ("main", 2), ("main", 3)))
        self.assertEqual(bound_of(LINE, [("main", 1)]), 2)
        self.assertEqual(bound_of(LINE, (("main", 2),)), 3)

    def test_nothing_is_left(self):
        self.assertEqual(bound_of(LINE, LINE.spots()), 0)
        self.assertEqual(longest_way(LINE, LINE.spots()), ())

    def test_spots_that_are_not_come_to_may_be_looks_and_count_for_nothing(self):
        program = plain((("go", 3), ("out", 1), ("out", 2), ("back", 3)))
        self.assertEqual(bound_of(program, []), 2)
        self.assertEqual(bound_of(program, [("main", 1)]), 2)

    def test_a_loop_has_ways_of_any_length_until_one_of_its_rows_is_a_look(self):
        self.assertIsNone(bound_of(COUNTDOWN, []))
        self.assertIsNone(longest_way(COUNTDOWN, []))
        self.assertEqual(bound_of(COUNTDOWN, [("main", 6)]), 5)
        self.assertEqual(bound_of(COUNTDOWN, [("main", 2)]), 3)
        self.assertIsNone(bound_of(plain((("go", 0),)), []))

    def test_calls_within_calls(self):
        self.assertIsNone(bound_of(CALLER, []))
        # The way up has any length, too: each back leads anew behind a call.
        self.assertIsNone(bound_of(CALLER, [("sum", 0)]))
        self.assertIsNone(bound_of(CALLER, [("sum", 4)]))
        self.assertEqual(bound_of(CALLER, [("sum", 4), ("sum", 5)]), 9)

    def test_ways_go_through_calls_and_come_back_behind_them(self):
        program = Program([("main", (), (("call", "x", "f", ()), ("call", "x", "f", ()), ("back", "x"))),
                           ("f", (), (("out", 1), ("back", 1)))])
        way = (("main", 0), ("f", 0), ("f", 1), ("main", 1), ("f", 0), ("f", 1), ("main", 2))
        self.assertEqual((bound_of(program, []), longest_way(program, [])), (7, way))
        self.assertEqual(bound_of(program, [("f", 0)]), 2)
        self.assertEqual(bound_of(program, [("main", 0)]), 6)
        self.assertEqual(bound_of(program, [("f", 1)]), 2)

    def test_a_back_whose_call_was_ahead_leads_behind_any_come_call_each_time_anew(self):
        program = Program([
            ("main", (), (("call", "x", "f", ()), ("out", 1), ("back", "x"))),
            ("f", (), (("call", "x", "g", ()), ("out", 2), ("call", "x", "g", ()), ("back", 1))),
            ("g", (), (("out", 3), ("back", 1))),
        ])
        looks = [("main", 0), ("f", 0), ("f", 2)]
        self.assertEqual(longest_way(program, looks), (("g", 0), ("g", 1), ("f", 3), ("main", 1), ("main", 2)))
        self.assertTrue(is_way(program, looks, (("g", 1), ("f", 1))))

    def test_a_callee_without_a_back_that_is_no_look_is_never_gone_through(self):
        self.assertIsNone(bound_of(CALLS, []))
        self.assertEqual(bound_of(CALLS, [("ever", 0)]), 7)
        self.assertEqual(bound_of(CALLS, [("ever", 0), ("f", 1)]), 2)

    def test_by_chance_held_against_all_ways(self):
        chance = chance_of(163)
        told = {None: 0, 0: 0, 1: 0}
        for _ in range(500):
            program = small_program(chance)
            looks = some_looks(chance, program)
            bound = bound_of(program, looks)
            self.assertEqual(bound, bound_anew(program, looks))
            way = longest_way(program, looks)
            if bound is None:
                self.assertIsNone(way)
            else:
                self.assertEqual(len(way), bound)
                self.assertEqual(is_way(program, looks, way), bound > 0)
            told[bound and 1] += 1
        self.assertGreater(min(told.values()), 5)

    def test_many_calls_are_reckoned_at_once(self):
        rows = tuple(("call", "x", name, ()) for name in 11 * "f")
        procedures = [("main", (), (*rows, ("back", 1))), ("f", (), (*(row[:2] + ("g", ()) for row in rows), ("back", 1))),
                      ("g", (), (*(row[:2] + ("h", ()) for row in rows), ("back", 1))),
                      ("h", (), (*11 * (("out", 1),), ("back", 1)))]
        program = Program(procedures)
        through = 12
        for _ in range(3):
            through = 11 * (through + 1) + 1
        self.assertEqual(bound_of(program, []), through)
        way = longest_way(program, [])
        self.assertEqual(len(way), through)
        self.assertTrue(is_way(program, [], way))

    def test_errors(self):
        for function in (bound_of, longest_way):
            self.refuses_all(NoProgram, odd_values(), function, behind=([],))
            for value in odd_values():
                if not isinstance(value, (list, tuple)):
                    self.assertIsNone(self.told(NoLooks, function, LINE, value))
                elif value:
                    self.assertEqual(self.told(NoLooks, function, LINE, value), 0)
            self.assertEqual(self.told(NoLooks, function, LINE, [("main", 0), ("main", 4), None]), 1)
            self.assertEqual(self.told(NoLooks, function, LINE, [("main", 1), ("main", 0), ("main", 1)]), 2)
            self.assertEqual(self.told(NoLooks, function, LINE, [("main", 0), ("main", True)]), 1)


class Ways(Told):
    def test_ordinary(self):
        self.assertIs(is_way(LINE, [], (("main", 1), ("main", 3))), True)
        self.assertIs(is_way(LINE, [], (("main", 1), ("main", 2), ("main", 3))), True)
        self.assertIs(is_way(LINE, [], (("main", 3),)), True)
        self.assertIs(is_way(LINE, [], (("main", 0), ("main", 2))), False)
        self.assertIs(is_way(LINE, [], (("main", 3), ("main", 0))), False)
        self.assertIs(is_way(LINE, [("main", 2)], (("main", 1), ("main", 2))), False)
        self.assertIs(is_way(LINE, [("main", 2)], (("main", 1), ("main", 3))), True)

    def test_calls(self):
        self.assertTrue(is_way(CALLS, [], (("main", 0), ("f", 0), ("f", 1), ("main", 1), ("f", 0))))
        self.assertFalse(is_way(CALLS, [], (("main", 0), ("main", 1))))
        self.assertFalse(is_way(CALLS, [], (("main", 0), ("f", 0), ("f", 1), ("main", 2))))
        self.assertTrue(is_way(CALLS, [], (("f", 0), ("f", 1), ("main", 2))))
        self.assertTrue(is_way(CALLS, [], (("f", 1), ("main", 1), ("f", 0), ("f", 1), ("main", 2))))
        self.assertFalse(is_way(CALLS, [], (("f", 1), ("main", 1), ("f", 0), ("f", 1), ("main", 1))))

    def test_spots_that_are_not_come_to(self):
        self.assertFalse(is_way(CALLS, [], (("g", 1),)))
        self.assertFalse(is_way(CALLS, [], (("f", 1), ("g", 1))))
        self.assertFalse(is_way(CALLS, [], (("main", 3),)))

    def test_any_value(self):
        self.likes_none(odd_values(), is_way, LINE, [])
        self.likes_none([(("main", 3), value) for value in odd_values()], is_way, LINE, [])
        self.likes_none([[("main", 3)], (("main", 4),), (("main", -1),), (("main", False),), ("main", 3),
                         (["main", 3],), (("f", 0),)], is_way, LINE, [])

    def test_loops_may_be_gone_round(self):
        ring = (("main", 2), ("main", 4), ("main", 5), ("main", 6))
        self.assertTrue(is_way(COUNTDOWN, [], 50 * ring))

    def test_errors(self):
        self.refuses_all(NoProgram, odd_values(), is_way, behind=([], ()))
        self.assertIsNone(self.told(NoLooks, is_way, LINE, None, ()))
        self.assertEqual(self.told(NoLooks, is_way, LINE, [1], ()), 0)


class Pauses(Told):
    def test_at_each_moment(self):
        run = Run(LINE, [0])
        self.assertEqual([pause_at(run, [("main", 2)], t) for t in range(5)], [2, 1, 0, 1, 0])
        self.assertEqual([pause_at(run, (), t) for t in range(5)], [4, 3, 2, 1, 0])
        self.assertEqual([pause_at(Run(LINE, [1]), [("main", 2)], t) for t in range(4)], [3, 2, 1, 0])

    def test_none_is_above_the_bound(self):
        chance = chance_of(164)
        done = 0
        while done < 60:
            run = changed_run(chance, 80) if chance.random() < 0.5 else random_run(chance, 80)
            spots = run.program().spots()
            looks = chance.sample(spots, chance.randrange(len(spots) + 1))
            bound = bound_of(run.program(), looks)
            for t in range(run.last() + 1):
                pause = pause_at(run, looks, t)
                now = [run.spot_at(t + step) for step in range(pause)]
                self.assertFalse(set(now) & set(looks))
                self.assertTrue(t + pause == run.last() or run.spot_at(t + pause) in looks)
                self.assertTrue(bound is None or pause <= bound)
                self.assertTrue(pause == 0 or is_way(run.program(), looks, tuple(now)))
            done += bound is not None

    def test_errors(self):
        run = Run(LINE, [0])
        self.refuses_all(NoRun, odd_values(), pause_at, behind=(None, None))
        self.assertIsNone(self.told(NoLooks, pause_at, run, None, None))
        self.assertEqual(self.told(NoLooks, pause_at, run, [("main", 0), ("f", 0)], None), 1)
        self.refuses_all(NoMoment, [*odd_values(), 5], pause_at, run, [])


class Least(Told):
    def least_anew(self, program, looks, menu, most):
        def is_enough(part):
            bound = bound_anew(program, {*looks, *part})
            return bound is not None and bound <= most

        parts = [part for size in range(len(menu) + 1) for part in combinations(menu, size)]
        good = [set(part) for part in parts if is_enough(part)]
        return [part for part in parts if set(part) in good and not any(other < set(part) for other in good)]

    def test_ordinary(self):
        menu = (("main", 6), ("main", 2), ("main", 4), ("main", 0))
        self.assertEqual(least_looks(COUNTDOWN, [], menu, 5), [(("main", 6),), (("main", 2),), (("main", 4),)])
        self.assertEqual(least_looks(COUNTDOWN, [], menu, 3), [(("main", 2),), (("main", 6), ("main", 4), ("main", 0))])
        self.assertEqual(least_looks(COUNTDOWN, [], menu, 2), [(("main", 6), ("main", 2)), (("main", 2), ("main", 4))])
        self.assertEqual(least_looks(COUNTDOWN, [], (("main", 0), ("main", 3)), 100), [])

    def test_looks_that_are_some_already(self):
        self.assertEqual(least_looks(COUNTDOWN, [("main", 2)], (("main", 4),), 3), [()])
        self.assertEqual(least_looks(COUNTDOWN, [("main", 2)], (("main", 4), ("main", 5)), 2),
                         [(("main", 4),), (("main", 5),)])
        self.assertEqual(least_looks(LINE, LINE.spots()[1:], (("main", 0),), 0), [(("main", 0),)])

    def test_by_chance_held_against_all_parts(self):
        chance = chance_of(165)
        many = 0
        for _ in range(150):
            program = small_program(chance)
            looks = some_looks(chance, program)
            left = [spot for spot in come_spots(program) if spot not in looks]
            if not left:
                continue
            menu = tuple(chance.sample(left, min(len(left), chance.randrange(1, 6))))
            most = chance.randrange(9)
            told = least_looks(program, looks, menu, most)
            self.assertEqual(told, self.least_anew(program, looks, menu, most))
            many += len(told) > 1
        self.assertGreater(many, 10)

    def test_errors(self):
        menu = (("main", 2),)
        self.refuses_all(NoProgram, odd_values(), least_looks, behind=([], menu, 1))
        self.assertIsNone(self.told(NoLooks, least_looks, LINE, None, None, None))
        self.assertEqual(self.told(NoLooks, least_looks, LINE, [("main", 9)], None, None), 0)
        wrong = [*odd_values(), [("main", 2)], (("main", 2), ("main", 2)), (("main", 0),), (("main", 4),)]
        self.refuses_all(NoMenu, wrong, least_looks, LINE, [("main", 0)], behind=(None,))
        self.assertEqual(self.told(NoMenu, least_looks, CALLS, [], (("g", 0),), 1), (("g", 0),))
        nine = tuple(COUNTDOWN.spots()) + (("main", 0),)
        self.assertIs(self.told(NoMenu, least_looks, COUNTDOWN, [], nine, 1), nine)
        long = plain((*11 * (("out", 1),), ("back", 1)))
        self.assertEqual(least_looks(long, [], tuple(long.spots()[:8]), 12), [()])
        self.assertIs(self.told(NoMenu, least_looks, long, [], spots := tuple(long.spots()[:9]), 12), spots)
        counts = [value for value in odd_values() if value.__class__ is not int or value < 0]
        self.refuses_all(NoCount, counts, least_looks, LINE, [], menu)
        self.assertEqual(least_looks(LINE, [], menu, 10 ** 60), [()])


if __name__ == "__main__":
    unittest.main()
