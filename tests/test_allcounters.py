"""Promise [15]: arcs of all called procedures, lots that tell all, free papers, the fewest; of [0.2] (g)."""

import itertools
import math
import unittest

from plainmoment.allcounters import accepts_free, all_arcs, called_names, do_tell_all, fewest_for_all, free_paper
from plainmoment.counters import arcs_of, counts_at, standing_at
from plainmoment.errors import NoCount, NoProgram
from plainmoment.programs import Program
from tests.samples import CALLER, COUNTDOWN, Odd, Told, changed_run, chance_of, dependence, odd_values, random_program

# main calls f twice; g is called by a row of f that is never reached, and h by nobody.
TWICE = Program([
    ("main", (), (("call", "x", "f", ()), ("call", "x", "f", ()), ("back", 0))),
    ("h", (), (("call", "x", "g", ()), ("back", 0))),
    ("f", (), (("if", "x", 3), ("back", 1), ("call", "x", "g", ()), ("back", 2))),
    ("g", (), (("back", 3),)),
])

# f calls itself twice as often as it is called.
SELF = Program([
    ("main", (), (("call", "x", "f", ()), ("back", 0))),
    ("f", (), (("if", "x", 4), ("call", "x", "f", ()), ("call", "x", "f", ()), ("go", 4), ("back", 0))),
])

# Two ways of main, of which the one calls f thrice and the other one once.
WAYS = Program([
    ("main", (), (("if", "x", 5), ("call", "y", "f", ()), ("call", "y", "f", ()), ("call", "y", "f", ()), ("go", 6),
                  ("call", "y", "f", ()), ("back", 0))),
    ("f", (), (("back", 0),)),
])


def reached_of(program, name):
    reached = {0}
    while True:
        more = reached | {spot[1] for row in reached for spot in program.nexts((name, row))}
        if more == reached:
            return reached
        reached = more


def called_anew(program):
    called = {program.names()[0]}
    while True:
        rows = [program.row((name, row)) for name in called for row in reached_of(program, name)]
        more = called | {row[2] for row in rows if row[0] == "call"}
        if more == called:
            return [name for name in program.names() if name in called]
        called = more


def columns_of(program):
    """For each arc, in order, the dict from the sums to how it counts in them."""
    columns = {}
    for name in called_anew(program):
        for one, other in arcs_of(program, name):
            column = {}
            if one >= 0:
                column[name, one] = column.get((name, one), 0) - 1
            if other >= 0:
                column[name, other] = column.get((name, other), 0) + 1
            if one == -1:
                column[name, "begun"] = 1
            elif program.row((name, one))[0] == "call":
                callee = program.row((name, one))[2]
                column[callee, "begun"] = column.get((callee, "begun"), 0) - 1
            columns[name, one, other] = column
    return columns


def free_anew(program, lot):
    columns = columns_of(program)
    out = [arc for arc in columns if arc not in lot]
    numbers = dependence([columns[arc] for arc in out])
    if numbers is None:
        return None
    whole = math.lcm(*[number.denominator for number in numbers])
    numbers = [int(number * whole) for number in numbers]
    share = math.gcd(*numbers) * (1 if numbers[-1] > 0 else -1)
    return ("free", tuple((arc, number // share) for arc, number in zip(out, numbers) if number))


def is_free_anew(program, lot, pairs):
    columns = columns_of(program)
    sums = {}
    for arc, number in pairs:
        for key, share in columns[arc].items():
            sums[key] = sums.get(key, 0) + share * number
    return bool(pairs) and not any(arc in lot for arc, _ in pairs) and not any(sums.values())


def calling(chance):
    """A program by chance of many calls and ifs."""
    procedures = []
    for at, name in enumerate(("main", "f", "g")):
        many = chance.randrange(5, 11) if at == 0 else chance.randrange(1, 7)
        rows = []
        for _ in range(many - 1):
            word = chance.choice(("call", "call", "if", "if", "go", "back"))
            callee = chance.choice("fg" if at == 0 else "g" if at == 1 else "fg")
            rows.append({"call": ("call", "x", callee, ()), "if": ("if", "x", chance.randrange(many)),
                         "go": ("go", chance.randrange(many)), "back": ("back", 0)}[word])
        procedures.append((name, (), (*rows, ("back", 0))))
    return Program(procedures)


def lots_by_chance(chance, program, many):
    arcs = list(columns_of(program))
    fewest = len(fewest_for_all(program))
    for _ in range(many):
        size = min(len(arcs), max(0, fewest + chance.randrange(-2, 4)))
        yield chance.sample(arcs, chance.choice((size, chance.randrange(len(arcs) + 1))))


class Arcs(Told):
    def test_called(self):
        self.assertEqual(called_names(TWICE), ["main", "f"])
        self.assertEqual(called_names(SELF), ["main", "f"])
        self.assertEqual(called_names(CALLER), ["main", "dbl", "sum"])
        self.assertEqual(called_names(COUNTDOWN), ["main"])
        alone = Program([("main", (), (("back", 0),)), ("f", (), (("call", "x", "f", ()), ("back", 0)))])
        self.assertEqual(called_names(alone), ["main"])
        chain = Program([("main", (), (("call", "x", "b", ()), ("back", 0))), ("a", (), (("back", 0),)),
                         ("b", (), (("call", "x", "a", ()), ("back", 0)))])
        self.assertEqual(called_names(chain), ["main", "a", "b"])

    def test_arcs(self):
        self.assertEqual(all_arcs(TWICE), [
            ("main", -1, 0), ("main", 0, 1), ("main", 1, 2), ("main", 2, -1),
            ("f", -1, 0), ("f", 0, 1), ("f", 0, 3), ("f", 1, -1), ("f", 3, -1)])

    def test_by_chance(self):
        chance = chance_of(1551)
        for _ in range(100):
            program = random_program(chance)
            self.assertEqual(called_names(program), called_anew(program))
            self.assertEqual(all_arcs(program), [(name, *arc) for name in called_anew(program)
                                                 for arc in arcs_of(program, name)])

    def test_errors(self):
        for function, behind in ((called_names, ()), (all_arcs, ()), (do_tell_all, (None,)), (free_paper, (None,)),
                                 (accepts_free, (None, None)), (fewest_for_all, ())):
            self.refuses_all(NoProgram, odd_values(), function, behind=behind)


class TellingAll(Told):
    def test_examples(self):
        self.assertIs(do_tell_all(TWICE, []), False)
        self.assertEqual(free_paper(TWICE, []), ("free", ((("f", 0, 1), -1), (("f", 0, 3), 1), (("f", 1, -1), -1),
                                                          (("f", 3, -1), 1))))
        self.assertIs(do_tell_all(TWICE, [("f", 0, 1)]), True)
        self.assertIsNone(free_paper(TWICE, [("f", 0, 1)]))
        self.assertIs(do_tell_all(TWICE, [("main", 0, 1)]), False)
        self.assertEqual(fewest_for_all(TWICE), (("f", 3, -1),))
        self.assertEqual(fewest_for_all(COUNTDOWN), (("main", 6, 2),))

    def test_the_sum_of_a_begin_tells(self):
        # The one begin of main and the calls tell what a procedure by itself does not.
        program = Program([("main", (), (("call", "x", "f", ()), ("back", 0))), ("f", (), (("back", 0),))])
        self.assertIs(do_tell_all(program, ()), True)
        self.assertEqual(fewest_for_all(program), ())

    def test_numbers_beyond_one(self):
        # The one way of main calls f thrice, the other one once.
        paper = ("free", (
            (("main", 0, 1), 1), (("main", 0, 5), -1), (("main", 1, 2), 1), (("main", 2, 3), 1), (("main", 3, 4), 1),
            (("main", 4, 6), 1), (("main", 5, 6), -1), (("f", -1, 0), 2), (("f", 0, -1), 2)))
        self.assertEqual(free_paper(WAYS, []), paper)
        self.assertEqual(free_anew(WAYS, []), paper)
        self.assertEqual(free_paper(WAYS, [("main", 6, -1)]), paper)
        # How often f was begun tells which way was gone.
        self.assertIs(do_tell_all(WAYS, [("f", -1, 0)]), True)
        self.assertEqual(fewest_for_all(WAYS), (("f", 0, -1),))

    def test_calls_within(self):
        self.assertEqual(free_paper(SELF, []), free_anew(SELF, []))
        self.assertEqual(len(fewest_for_all(SELF)), 1)

    def test_by_chance(self):
        chance = chance_of(1552)
        told = []
        great = 0
        for _ in range(60):
            program = calling(chance) if chance.random() < 0.7 else random_program(chance)
            for lot in lots_by_chance(chance, program, 10):
                wanted = free_anew(program, lot)
                paper = free_paper(program, chance.choice((list, tuple))(lot))
                self.assertEqual(paper, wanted)
                self.assertIs(do_tell_all(program, lot), wanted is None)
                told.append(wanted is None)
                if paper is not None:
                    self.assertIs(accepts_free(program, lot, paper), True)
                    great += max(abs(number) for _, number in paper[1]) > 1
                    self.assertGreater(paper[1][-1][1], 0)
        self.assertTrue(told.count(True) > 100 and told.count(False) > 100 and great > 2, (told.count(True), great))

    def test_the_fewest_by_chance(self):
        chance = chance_of(1553)
        small = 0
        for _ in range(80):
            program = calling(chance) if chance.random() < 0.5 else random_program(chance)
            arcs = all_arcs(program)
            columns = columns_of(program)
            left = []
            for arc in arcs:
                if dependence([columns[one] for one in left + [arc]]) is None:
                    left.append(arc)
            told = fewest_for_all(program)
            self.assertEqual(told, tuple(arc for arc in arcs if arc not in left))
            self.assertTrue(do_tell_all(program, told))
            if len(arcs) <= 12 and len(told) > 0:
                small += 1
                for lot in itertools.combinations(arcs, len(told) - 1):
                    self.assertIsNotNone(free_anew(program, lot))
        self.assertGreater(small, 10)

    def test_counts_of_runs_fit_all_sums(self):
        chance = chance_of(1554)
        for _ in range(40):
            run = changed_run(chance, 80)
            program = run.program()
            t = chance.randrange(run.last() + 1)
            sums = {}
            for arc, column in columns_of(program).items():
                number = counts_at(run, t, arc[0])[arc[1:]]
                for key, share in column.items():
                    sums[key] = sums.get(key, 0) + share * number
            for name in called_anew(program):
                for row, standing in standing_at(run, t, name).items():
                    self.assertEqual(sums.pop((name, row), 0), standing)
                waiting = sum(program.row(frame[1:3])[2] == name for frame in run.state(t)[1][:-1])
                self.assertEqual(sums.pop((name, "begun")), 1 if name == program.names()[0] else waiting)
            self.assertEqual(sums, {})


class Papers(Told):
    def test_right_ones(self):
        pairs = free_paper(TWICE, [])[1]
        self.assertIs(accepts_free(TWICE, [], ("free", pairs)), True)
        self.assertIs(accepts_free(TWICE, (), ("free", tuple((arc, -5 * number) for arc, number in pairs))), True)
        self.assertIs(accepts_free(TWICE, [("main", 0, 1)], ("free", pairs)), True)
        self.assertIs(accepts_free(TWICE, [("f", 1, -1)], ("free", pairs)), False)

    def test_all_small_ones(self):
        lot = [("main", -1, 0), ("main", 6, -1)]
        out = [arc for arc in all_arcs(WAYS) if arc not in lot]
        right = 0
        for rest in itertools.product((-1, 1, 2), repeat=len(out) - 3):
            numbers = (1, -1, 1, *rest)
            pairs = tuple((arc, number) for arc, number in zip(out, numbers) if number)
            told = accepts_free(WAYS, lot, ("free", pairs))
            self.assertIs(told, is_free_anew(WAYS, lot, pairs))
            right += told
        self.assertEqual(right, 1)

    def test_wrong_ones(self):
        pairs = free_paper(TWICE, [])[1]
        self.likes_none(odd_values() + [
            ("free", ()), ("free", list(pairs)), ["free", pairs], ("Free", pairs), ("free", pairs, 1), ("free",),
            ("free", pairs[::-1]), ("free", pairs + pairs), ("free", pairs[:3]), ("free", pairs[1:]),
            ("free", tuple((arc, float(number)) for arc, number in pairs)), (Odd(), pairs), ("free", Odd()),
            ("free", tuple((arc, True if number == 1 else number) for arc, number in pairs)), ("free", (Odd(),)),
            ("free", ((("main", -1, 0), 0),) + pairs), ("free", ((("main", -1, 0), 1),) + pairs),
            ("free", ((("h", -1, 0), 1),) + pairs), ("free", tuple([list(pair) for pair in pairs])),
            ("free", tuple(([*arc], number) for arc, number in pairs)), ("free", (pairs[0][:1],)),
            ("free", ((Odd(), 1),)), ("free", ((pairs[0][0], Odd()),)), ("free", None),
            ("free", pairs[:1] + pairs), ("ring", pairs)], accepts_free, TWICE, [])

    def test_no_count(self):
        for function, behind in ((do_tell_all, ()), (free_paper, ()), (accepts_free, (None,))):
            for arc in (("f", 0, True), ("f", False, 1), ("f", 0, 1.0), ("g", -1, 0)):
                self.assertEqual(self.told(NoCount, function, TWICE, [arc], *behind), 0)
            for arcs in (None, 0, "", {}, {("f", 0, 1): 1}, range(0), True):
                self.assertIsNone(self.told(NoCount, function, TWICE, arcs, *behind))
            for arc in odd_values() + [(0, 1), ("f", 0), ("f", 0, 2), ("f", 0, 1, 1), ["f", 0, 1], ("f", False, 1),
                                       ("f", 0, True), ("g", -1, 0), ("h", -1, 0), (None, 0, 1), ("f", 0, 1),
                                       ("f", Odd(), 1), (Odd(), 0, 1), ("f", 2, 3), ("f", 0.0, 1)]:
                self.assertEqual(self.told(NoCount, function, TWICE, [("main", 0, 1), ("f", 0, 1), arc, None], *behind), 2)


if __name__ == "__main__":
    unittest.main()
