"""Promise [13]: sites, puts, new tables, papers, and puts done with numbers; and of [0.2] (f)."""

import itertools
import unittest

from plainmoment.branches import branch_of
from plainmoment.errors import (NoMade, NoMoment, NoPlaces, NoProgram, NoRun, NoStop, NoValue, NoValues, NoVariable,
                                TooMany)
from plainmoment.made import is_right, shown_in, table_at
from plainmoment.putting import (accepts_put, change_at, closed_puts, first_wrong, good_puts, homes_behind,
                                 is_closed_put, is_good_put, plain_behind, put_paper, sites_at, table_behind)
from plainmoment.runs import Run
from plainmoment.stretches import stretches
from tests.samples import (COUNTDOWN, REGISTERS, Odd, Told, chance_of, odd_values, plain, random_program, random_run,
                           reckon, right_made)

# b becomes a + 1, c becomes a + 2.
SUMS = plain((("set", "b", "add", "a", 1), ("set", "c", "add", "a", 2), ("back", "c")))
SUM = ("main", 0, 1)
# The value of a is in r0, too, which makes b and c; a itself stays.
TWICE = (SUM, (("copy", "r0", "a"), ("set", "b", "add", "r0", 1), ("set", "c", "add", "r0", 2)), (0, 0, 1, 2))
# The same with c made of the home.
SPLIT = (SUM, (("copy", "r0", "a"), ("set", "b", "add", "r0", 1), ("set", "c", "add", "a", 2)), (0, 0, 1, 2))
# c is made first, out of order.
EARLY = (SUM, (("set", "c", "add", "a", 2), ("set", "b", "add", "a", 1)), (0, 0, 2))
COPIES = plain((("copy", "b", "a"), ("set", "b", "add", "b", 1), ("back", "b")))

# x is written anew without being read; y is a copy of it made far ahead.
ANEW = plain((("copy", "y", "x"), ("copy", "x", 5), ("back", "y")))
ANEW_MADE = (("main", 0, 1), (("copy", "y", "x"), ("copy", "x", 5)), (0, 1, 2))

# Eight places show x behind all made rows.
WIDE = plain(tuple(("copy", name, "x") for name in "abcdefg") + (("back", "x"),))
WIDE_MADE = (("main", 0, 6), tuple(("copy", name, "x") for name in "abcdefg"), tuple(range(8)))


def term_of(part, terms):
    return str(part) if isinstance(part, int) else terms[part]


def led(rows, terms):
    """Terms as texts, an own way to lead them on."""
    terms = dict(terms)
    for row in rows:
        if row[0] == "copy":
            terms[row[1]] = term_of(row[2], terms)
        else:
            terms[row[1]] = f"({row[2]} {term_of(row[3], terms)} {term_of(row[4], terms)})"
    return terms


class Anew:
    """All that is told of the puts of a wish, reckoned anew."""

    def __init__(self, program, made, stop, variable):
        (name, first, last), rows, labels = made
        begun = program.procedure(name)[2][first:last + 1]
        homes = {one: f"<{one}>" for one in program.variables_of(name)}
        self.homes = list(homes)
        places = {**homes, **{one: f"<{one}>" for one in REGISTERS}}
        self.held = [led(rows[:at], places) for at in range(len(rows) + 1)]
        self.plain = [led(begun[:label], homes) for label in labels]
        self.made, self.stop, self.variable = made, stop, variable
        self.branch = [led(begun[labels[stop]:label], {**self.plain[stop], variable: "NEW"})
                       for label in labels[stop:]]
        self.tables = [self.table(held, terms) for held, terms in zip(self.held[stop:], self.plain[stop:])]
        self.sites = self.order(self.held[stop], self.plain[stop], variable)

    def order(self, held, terms, variable):
        found = [place for place in held if held[place] == terms[variable]]
        return [place for place in found if place == variable] + [place for place in found if place != variable]

    def table(self, held, terms):
        return {one: (self.order(held, terms, one) or [None])[0] for one in self.homes}

    def behind(self, put):
        begun = {**self.held[self.stop], **{place: "NEW" for place in put}}
        return [led(self.made[1][self.stop:later], begun) for later in range(self.stop, len(self.made[1]) + 1)]

    def new_table(self, put):
        return [self.table(held, terms) for held, terms in zip(self.behind(put), self.branch)]

    def is_closed(self, put):
        held = self.behind(put)[-1]
        return all(held[home] == self.branch[-1][home] for home in self.homes)

    def wrongs(self, put):
        return [(later, one)
                for later, (held, terms, table) in enumerate(zip(self.behind(put), self.branch, self.tables), self.stop)
                for one in self.homes if table[one] is not None and held[table[one]] != terms[one]]

    def puts(self):
        return [put for size in range(len(self.sites) + 1) for put in itertools.combinations(self.sites, size)]

    def least(self, puts):
        return [put for put in puts if not any(set(other) < set(put) for other in puts)]


def copied_made(chance, program, stretch):
    """A right made stretch by chance: homes are copied to registers, which are read in their place."""
    name, first, last = stretch
    where = {variable: [variable] for variable in program.variables_of(name)}
    rows, labels = [], []
    for label, row in enumerate(program.procedure(name)[2][first:last + 1]):
        while chance.random() < 0.5 and where and len(rows) < 11:
            register = chance.choice(REGISTERS)
            for held in where.values():
                if register in held:
                    held.remove(register)
            variable = chance.choice(list(where))
            rows.append(("copy", register, chance.choice(where[variable])))
            where[variable].append(register)
            labels.append(label)
        at = 3 if row[0] == "set" else 2
        parts = [part if isinstance(part, int) else chance.choice(where[part]) for part in row[at:]]
        rows.append((*row[:at], *parts))
        labels.append(label)
        where[row[1]] = [row[1]]
    labels.append(last - first + 1)
    return (stretch, tuple(rows), tuple(labels)) if len(rows) <= 12 else right_made(chance, program, stretch)


def wishes(chance, program, many):
    """Right made stretches of a program with a stop and a variable that is told there."""
    found = []
    for stretch in stretches(program):
        made = chance.choice((copied_made, right_made))(chance, program, stretch)
        for stop in range(len(made[1]) + 1):
            for variable, place in table_at(program, made, stop).items():
                if place is not None:
                    found.append((program, made, stop, variable))
    return chance.sample(found, min(many, len(found)))


def straight(chance):
    """A program of one long stretch."""
    names = ["a", "b", "c", "d"][:chance.randrange(2, 5)]
    rows = []
    for _ in range(chance.randrange(3, 8)):
        parts = [chance.choice(names) if chance.random() < 0.8 else chance.randrange(4) for _ in range(2)]
        if chance.random() < 0.3:
            rows.append(("copy", chance.choice(names), parts[0]))
        else:
            rows.append(("set", chance.choice(names), chance.choice(("add", "sub", "mul", "less")), *parts))
    return plain(rows + [("back", chance.choice(names))])


def wishes_by_chance(seed, programs=60, many=12):
    chance = chance_of(seed)
    for _ in range(programs):
        yield from wishes(chance, random_program(chance) if chance.random() < 0.3 else straight(chance), many)


class Puts(Told):
    def test_samples_are_right(self):
        for program, made in ((SUMS, TWICE), (SUMS, SPLIT), (SUMS, EARLY), (ANEW, ANEW_MADE), (WIDE, WIDE_MADE)):
            self.assertTrue(is_right(program, made))

    def test_sites(self):
        self.assertEqual(sites_at(SUMS, TWICE, 0, "a"), ("a",))
        self.assertEqual(sites_at(SUMS, TWICE, 1, "a"), ("a", "r0"))
        self.assertEqual(sites_at(ANEW, ANEW_MADE, 1, "y"), ("y", "x"))
        self.assertEqual(sites_at(ANEW, ANEW_MADE, 1, "x"), ("x", "y"))
        self.assertEqual(sites_at(WIDE, WIDE_MADE, 7, "x"), ("x", "a", "b", "c", "d", "e", "f", "g"))
        self.assertEqual(sites_at(WIDE, WIDE_MADE, 2, "b"), ("b", "a", "x"))
        self.assertEqual(sites_at(WIDE, WIDE_MADE, 1, "b"), ("b",))
        self.assertEqual(sites_at(WIDE, WIDE_MADE, 3, "b"), ("b", "a", "c", "x"))

    def test_a_register_is_needed_too(self):
        self.assertEqual(good_puts(SUMS, TWICE, 1, "a"), [("a", "r0")])
        self.assertEqual(closed_puts(SUMS, TWICE, 1, "a"), [("a", "r0")])
        self.assertIsNone(first_wrong(SUMS, TWICE, 1, "a", ("a", "r0")))
        self.assertEqual(first_wrong(SUMS, TWICE, 1, "a", ("a",)), (2, "b"))
        self.assertEqual(first_wrong(SUMS, TWICE, 1, "a", ("r0",)), (1, "a"))
        self.assertEqual(first_wrong(SUMS, TWICE, 1, "a", ()), (1, "a"))
        self.assertIs(is_good_put(SUMS, TWICE, 1, "a", ("a", "r0")), True)
        self.assertIs(is_good_put(SUMS, TWICE, 1, "a", ("a",)), False)

    def test_what_was_made_ahead_cannot_be_put_otherwise(self):
        self.assertEqual(good_puts(SUMS, EARLY, 1, "a"), [])
        self.assertEqual(closed_puts(SUMS, EARLY, 1, "a"), [])
        self.assertEqual(first_wrong(SUMS, EARLY, 1, "a", ("a",)), (2, "c"))
        self.assertEqual(good_puts(SUMS, EARLY, 0, "a"), [("a",)])

    def test_what_is_lost_may_be_closed_by_the_empty_put(self):
        # x is written anew and nothing reads it: behind the stretch nothing is unlike, but x is told till then.
        self.assertEqual(closed_puts(ANEW, ANEW_MADE, 1, "x"), [()])
        self.assertEqual(good_puts(ANEW, ANEW_MADE, 1, "x"), [("x",)])
        self.assertIs(is_closed_put(ANEW, ANEW_MADE, 1, "x", ()), True)
        self.assertIs(is_closed_put(ANEW, ANEW_MADE, 1, "x", ("x",)), True)
        self.assertIs(is_closed_put(ANEW, ANEW_MADE, 1, "x", ("x", "y")), False)
        self.assertIs(is_good_put(ANEW, ANEW_MADE, 1, "x", ()), False)
        self.assertEqual(good_puts(ANEW, ANEW_MADE, 1, "y"), [("y",)])
        self.assertEqual(closed_puts(ANEW, ANEW_MADE, 1, "y"), [("y",)])
        self.assertIs(is_closed_put(ANEW, ANEW_MADE, 1, "y", ("y", "x")), True)

    def test_new_tables(self):
        self.assertEqual(table_behind(SUMS, TWICE, 1, "a", ("a", "r0")), [
            {"a": "a", "b": "b", "c": "c"}, {"a": "a", "b": "b", "c": "c"}, {"a": "a", "b": "b", "c": "c"}])
        self.assertEqual(table_behind(SUMS, TWICE, 1, "a", ("r0",)), [
            {"a": "r0", "b": "b", "c": "c"}, {"a": "r0", "b": "b", "c": "c"}, {"a": "r0", "b": "b", "c": "c"}])
        self.assertEqual(table_behind(SUMS, TWICE, 1, "a", ()), [
            {"a": None, "b": "b", "c": "c"}, {"a": None, "b": None, "c": "c"}, {"a": None, "b": None, "c": None}])
        self.assertEqual(table_behind(ANEW, ANEW_MADE, 1, "x", ("x", "y")), [
            {"x": "x", "y": None}, {"x": "x", "y": None}])
        self.assertEqual(table_behind(ANEW, ANEW_MADE, 2, "x", ()), [{"x": None, "y": "y"}])

    def test_a_put_goes_to_all_places_that_show_it(self):
        # Of copies that the new table does not tell nothing is asked.
        made = (("main", 0, 1), (("copy", "r1", "a"), ("copy", "b", "a"), ("set", "b", "add", "b", 1)), (0, 0, 1, 2))
        self.assertEqual(good_puts(COPIES, made, 1, "a"), [("a",)])
        self.assertEqual(closed_puts(COPIES, made, 1, "a"), [("a",)])
        self.assertIs(is_good_put(COPIES, made, 1, "a", ("a", "r1")), True)

    def test_by_chance(self):
        many = goods = empties = manies = 0
        for program, made, stop, variable in wishes_by_chance(1301):
            anew = Anew(program, made, stop, variable)
            wish = (program, made, stop, variable)
            self.assertEqual(sites_at(*wish), tuple(anew.sites))
            self.assertEqual(list(sites_at(*wish)), shown_in(*wish))
            if len(anew.sites) > 7:
                continue
            puts = anew.puts()
            closed = [put for put in puts if anew.is_closed(put)]
            good = [put for put in puts if not anew.wrongs(put)]
            self.assertEqual(closed_puts(*wish), anew.least(closed))
            self.assertEqual(good_puts(*wish), anew.least(good))
            for put in puts[:16]:
                self.assertIs(is_closed_put(*wish, put), put in closed)
                self.assertIs(is_good_put(*wish, put), put in good)
                wrongs = anew.wrongs(put)
                self.assertEqual(first_wrong(*wish, put), wrongs[0] if wrongs else None)
                self.assertEqual(table_behind(*wish, put), anew.new_table(put))
                self.assertEqual([list(table) for table in table_behind(*wish, put)],
                                 [anew.homes] * (len(made[1]) + 1 - stop))
            for put in good:
                self.assertIn(put, closed)
                self.assertIn(anew.sites[0], put)
            many += 1
            goods += bool(good)
            empties += () in closed
            manies += any(len(put) > 1 for put in anew.least(good))
        self.assertTrue(many > 400 and 50 < goods < many and empties > 20 and manies > 20)

    def test_sites_beyond_seven(self):
        for function in (closed_puts, good_puts, put_paper):
            self.assertEqual(self.most(function, WIDE, WIDE_MADE, 7, "x"), 7)
            self.assertNotEqual(function(WIDE, WIDE_MADE, 6, "x"), None)
        self.assertEqual(len(sites_at(WIDE, WIDE_MADE, 6, "x")), 7)
        self.assertIs(is_good_put(WIDE, WIDE_MADE, 7, "x", ("x",)), True)
        self.assertIs(is_closed_put(WIDE, WIDE_MADE, 7, "x", ("x", "g")), False)
        self.assertEqual(first_wrong(WIDE, WIDE_MADE, 7, "x", ("x", "g")), (7, "g"))
        self.assertEqual(table_behind(WIDE, WIDE_MADE, 7, "x", ("g",))[0]["x"], "g")

    def test_what_is_no_put(self):
        wish = (SUMS, TWICE, 1, "a")
        values = [value for value in odd_values() if repr(value) not in ("()", "('a',)")]
        for value in values + [["a"], ("r0", "a"), ("a", "a"), ("b",), ("a", "b"), ("r1",), ("a", None), (Odd(),),
                               ("a", Odd()), "a", ("a", "r0", "r0"), {"a": 1}]:
            for function in (table_behind, is_closed_put, is_good_put, first_wrong):
                self.assertIs(self.told(NoPlaces, function, *wish, value), value)
            self.assertIs(self.told(NoPlaces, homes_behind, *wish, value, None, None), value)

    def test_errors(self):
        wrong = (SUM, TWICE[1][:2], (0, 0, 2))
        for function, behind in ((sites_at, ()), (closed_puts, ()), (good_puts, ()), (put_paper, ()),
                                 (table_behind, (None,)), (is_closed_put, (None,)), (is_good_put, (None,)),
                                 (first_wrong, (None,)), (homes_behind, (None, None, None)),
                                 (plain_behind, (None, None))):
            self.refuses_all(NoProgram, odd_values(), function, behind=(None, None, None, *behind))
            self.refuses_all(NoMade, odd_values() + [wrong, ANEW_MADE], function, SUMS, behind=(None, None, *behind))
            self.refuses_all(NoStop, odd_values() + [4], function, SUMS, TWICE, behind=(None, *behind))
            self.refuses_all(NoVariable, odd_values() + ["d", "r0", "main"], function, SUMS, TWICE, 1, behind=behind)

    def test_a_gone_variable_has_no_sites(self):
        made = (SUM, (("copy", "r0", "a"), ("copy", "a", 0), ("set", "b", "add", "r0", 1), ("set", "c", "add", "r0", 2),
                      ("copy", "b", 0), ("set", "b", "add", "r0", 1), ("copy", "a", "r0")), (0, 0, 0, 1, 2, 2, 2, 2))
        self.assertTrue(is_right(SUMS, made))
        self.assertIsNone(table_at(SUMS, made, 5)["b"])
        for function in (sites_at, closed_puts, good_puts, put_paper):
            self.assertEqual(self.told(NoVariable, function, SUMS, made, 5, "b"), "b")
        self.assertEqual(sites_at(SUMS, made, 5, "a"), ("r0",))
        self.assertEqual(good_puts(SUMS, made, 5, "a"), [])
        self.assertEqual(put_paper(SUMS, made, 5, "a"), ("none", 5, "a", [(("r0",), 6, "b")]))


class Papers(Told):
    def test_told(self):
        self.assertEqual(put_paper(SUMS, TWICE, 1, "a"), ("good", 1, "a", ("a", "r0")))
        self.assertEqual(put_paper(SUMS, EARLY, 1, "a"), ("none", 1, "a", [(("a",), 2, "c")]))
        self.assertEqual(put_paper(SUMS, SPLIT, 1, "a"), ("good", 1, "a", ("a", "r0")))
        self.assertEqual(put_paper(SUMS, SPLIT, 2, "a"), ("good", 2, "a", ("a",)))

    def test_none_of_several(self):
        # Both a and its copy show it; c was made ahead.
        made = (SUM, (("set", "c", "add", "a", 2), ("copy", "r0", "a"), ("set", "b", "add", "r0", 1)), (0, 0, 0, 2))
        paper = put_paper(SUMS, made, 2, "a")
        self.assertEqual(paper, ("none", 2, "a", [(("a",), 3, "b"), (("a", "r0"), 3, "c")]))
        right = [
            paper, ("none", 2, "a", tuple(paper[3])), ("none", 2, "a", paper[3][::-1]),
            ("none", 2, "a", [(("a",), 3, "c"), (("a", "r0"), 3, "c")])]
        for value in right:
            self.assertIs(accepts_put(SUMS, made, value), True, value)
        rows = paper[3]
        self.likes_none([
            ("none", 2, "a", rows[:1]), ("none", 2, "a", rows + rows[:1]), ("none", 2, "a", [rows[0], rows[0]]),
            ("none", 2, "a", [rows[0], (("a", "r0"), 3, "b")]), ("none", 2, "a", [rows[0], (("r0",), 3, "c")]),
            ("none", 2, "a", [(("a",), 2, "c"), rows[1]]), ("none", 2, "a", [(("a",), 4, "c"), rows[1]]),
            ("none", 2, "a", [(("a",), 1, "a"), rows[1]]), ("none", 2, "a", [(["a"], 3, "b"), rows[1]]),
            ("none", 2, "a", [(("a",), 3, "a"), rows[1]]), ("none", 2, "a", [(("a",), 3, "d"), rows[1]]),
            ("none", 2, "a", [(("a",), 3, None), rows[1]]), ("none", 2, "a", [(("a",), 3.0, "b"), rows[1]]),
            ("none", 2, "a", [(("a",), 3, "b", 1), rows[1]]), ("none", 2, "a", [list(rows[0]), rows[1]]),
            ("none", 2, "a", None), ("none", 2, "a", {}), ("none", 2, "a", []), ("none", 2, "a", [Odd(), Odd()]),
            ("none", 2, "a", [(Odd(), 3, "b"), rows[1]]), ("none", 2, "a", [(("a",), 3, Odd()), rows[1]]),
            ("none", 3, "a", rows), ("none", 2, "c", rows), ("none", 2, "b", rows), ("good", 2, "a", ("a",)),
            ("good", 2, "a", ("a", "r0")), ("good", 2, "a", rows), ["none", 2, "a", rows], ("none", 2, "a"),
            ("None", 2, "a", rows)], accepts_put, SUMS, made)

    def test_good_ones(self):
        made = (("main", 0, 1), (("copy", "r1", "a"), ("copy", "b", "a"), ("set", "b", "add", "b", 1)), (0, 0, 1, 2))
        for put in (("a",), ("a", "r1")):
            self.assertIs(accepts_put(COPIES, made, ("good", 1, "a", put)), True)
        self.likes_none(odd_values() + [
            ("good", 1, "a", ()), ("good", 1, "a", ("r1",)), ("good", 1, "a", ("r1", "a")), ("good", 1, "a", ["a"]),
            ("good", 1, "a", "a"), ("good", 1, "a", None), ("good", True, "a", ("a",)), ("good", 4, "a", ("a",)),
            ("good", -1, "a", ("a",)), ("good", 1.0, "a", ("a",)), ("good", 1, "d", ("a",)), ("good", 1, None, ("a",)),
            ("good", 1, "r1", ("a",)), ("good", 1, "b", ("a",)), ("bad", 1, "a", ("a",)), (None, 1, "a", ("a",)),
            ("good", 1, "a", ("a",), 1), ["good", 1, "a", ("a",)], ("good", 1, "a", Odd()), (Odd(), 1, "a", ("a",)),
            ("good", Odd(), "a", ("a",)), ("good", 1, Odd(), ("a",)), ("none", 1, "a", []),
            ("none", 1, "a", [(("a",), 2, "b"), (("a", "r1"), 2, "b")])], accepts_put, COPIES, made)

    def test_sites_beyond_seven(self):
        self.assertIs(accepts_put(WIDE, WIDE_MADE, ("good", 7, "x", ("x",))), True)
        self.assertIs(accepts_put(WIDE, WIDE_MADE, ("good", 7, "x", ("x", "a"))), False)
        self.assertIs(accepts_put(WIDE, WIDE_MADE, ("none", 7, "x", [(("x",), 7, "x")] * 128)), False)
        # y is made of r0, which is lost then, so no put is good; nine places show x.
        names = "abcdefgh"
        program = plain(tuple(("copy", name, "x") for name in names) + (("set", "y", "add", "x", 1), ("back", "y")))
        made = (("main", 0, 8), tuple(("copy", name, "x") for name in names[:3]) + (("set", "y", "add", "x", 1),)
                + tuple(("copy", name, "x") for name in names[3:]), (0, 1, 2, 3, 3, 4, 5, 6, 7, 9))
        self.assertTrue(is_right(program, made))
        sites = sites_at(program, made, 8, "x")
        self.assertEqual(len(sites), 8)
        rows = [(("x",) + part, 9, "y") for size in range(8) for part in itertools.combinations(sites[1:], size)]
        self.assertIs(accepts_put(program, made, ("none", 8, "x", rows)), True)
        self.assertIs(accepts_put(program, made, ("none", 8, "x", rows[:-1])), False)
        self.assertIs(accepts_put(program, made, ("none", 8, "x", rows[:-1] + rows[:1])), False)

    def test_by_chance(self):
        kinds = []
        for program, made, stop, variable in wishes_by_chance(1302, 40, 8):
            if len(sites_at(program, made, stop, variable)) > 7:
                continue
            paper = put_paper(program, made, stop, variable)
            kinds.append(paper[0])
            self.assertIs(accepts_put(program, made, paper), True)
            anew = Anew(program, made, stop, variable)
            if paper[0] == "none":
                rows = [(put, *anew.wrongs(put)[0]) for put in anew.puts() if anew.sites[0] in put]
                self.assertEqual(paper, ("none", stop, variable, rows))
                last = [(put, *anew.wrongs(put)[-1]) for put, _, _ in reversed(rows)]
                self.assertIs(accepts_put(program, made, ("none", stop, variable, last)), True)
                self.likes_none([("good", stop, variable, put) for put in anew.puts()], accepts_put, program, made)
            else:
                self.assertEqual(paper, ("good", stop, variable, good_puts(program, made, stop, variable)[0]))
        self.assertTrue(kinds.count("good") > 60 and kinds.count("none") > 20)

    def test_errors(self):
        self.refuses_all(NoProgram, odd_values(), accepts_put, behind=(None, None))
        self.refuses_all(NoMade, odd_values() + [ANEW_MADE], accepts_put, SUMS, behind=(None,))


class Numbers(Told):
    def test_with_numbers(self):
        wish = (SUMS, TWICE, 1, "a")
        self.assertEqual(homes_behind(*wish, ("a", "r0"), 40, {"a": 7, "b": 5}), {"a": 40, "b": 41, "c": 42})
        self.assertEqual(homes_behind(*wish, ("a",), 40, {"a": 7}), {"a": 40, "b": 8, "c": 9})
        self.assertEqual(homes_behind(*wish, (), 40, {}), {"a": 0, "b": 1, "c": 2})
        self.assertEqual(plain_behind(*wish, 40, {"a": 7}), {"a": 40, "b": 41, "c": 42})
        self.assertEqual(plain_behind(SUMS, TWICE, 3, "b", 9972, {"a": 7}), {"a": 7, "b": 9972, "c": 9})
        self.assertEqual(homes_behind(SUMS, TWICE, 3, "b", ("b",), 9972, {"a": 9972}), {"a": 9972, "b": 9972, "c": 1})
        self.assertEqual(list(homes_behind(*wish, (), 0, {"c": 1, "b": 2})), ["a", "b", "c"])
        self.assertEqual(list(plain_behind(*wish, 0, {"c": 1, "b": 2})), ["a", "b", "c"])

    def test_names_that_are_ops_too(self):
        program = plain((("set", "add", "sub", "mul", "less"), ("set", "less", "less", "add", "mul"), ("back", "add")))
        made = (("main", 0, 1), program.procedure("main")[2][:2], (0, 1, 2))
        self.assertEqual(homes_behind(program, made, 1, "add", ("add",), 3, {"mul": 9, "less": 2}),
                         {"add": 3, "less": 1, "mul": 9})
        self.assertEqual(plain_behind(program, made, 0, "mul", 8, {"mul": 9, "less": 2}),
                         {"add": 6, "less": 1, "mul": 8})

    def test_what_was_handed_in_stays(self):
        values = {"a": 7}
        homes_behind(SUMS, TWICE, 1, "a", ("a",), 40, values)
        plain_behind(SUMS, TWICE, 1, "a", 40, values)
        self.assertEqual(values, {"a": 7})

    def test_closed_puts_by_chance(self):
        chance = chance_of(1303)
        closed = others = 0
        for program, made, stop, variable in wishes_by_chance(1304, 50, 8):
            anew = Anew(program, made, stop, variable)
            (name, first, last), rows, labels = made
            begun = program.procedure(name)[2][first:last + 1]
            for put in anew.puts()[:8]:
                values = {one: chance.randrange(9973) for one in anew.homes if chance.random() < 0.7}
                value = chance.randrange(9973)
                told = homes_behind(program, made, stop, variable, put, value, values)
                wanted = self.done(rows[stop:], {**self.done(rows[:stop], values), **{place: value for place in put}})
                self.assertEqual(told, {home: wanted.get(home, 0) for home in anew.homes})
                plainly = plain_behind(program, made, stop, variable, value, values)
                wanted = self.done(begun[labels[stop]:], {**self.done(begun[:labels[stop]], values), variable: value})
                self.assertEqual(plainly, {home: wanted.get(home, 0) for home in anew.homes})
                if anew.is_closed(put):
                    self.assertEqual(told, plainly)
                    closed += 1
                else:
                    others += told != plainly
        self.assertTrue(closed > 100 and others > 100)

    def done(self, rows, values):
        values = dict(values)

        def worth(part):
            return part if isinstance(part, int) else values.get(part, 0)

        for row in rows:
            values[row[1]] = reckon(row[2], worth(row[3]), worth(row[4])) if row[0] == "set" else worth(row[2])
        return values

    def test_errors(self):
        wish = (SUMS, TWICE, 1, "a")
        for function, ahead in ((homes_behind, (*wish, ("a",))), (plain_behind, wish)):
            self.refuses_all(NoValue, odd_values() + [9973], function, *ahead, behind=(None,))
            values = [value for value in odd_values() if value.__class__ != dict]
            for value in values + [{"d": 1}, {"r0": 1}, {"a": 9973}, {"a": True}, {"a": None}, {1: 1}, {None: 1},
                                   {"a": 1, "b": -1}, {"a": Odd()}, {("a",): 1}, [("a", 1)], {True: 1}]:
                self.assertIs(self.told(NoValues, function, *ahead, 9972, value), value)
            self.assertIsNotNone(function(*ahead, 0, {"a": 0, "b": 1, "c": 9972}))


class Changes(Told):
    def test_change(self):
        run = Run(SUMS)
        self.assertEqual(change_at(run, TWICE, 0, 0, "a", 5), (0, 0, "a", 5))
        self.assertEqual(change_at(run, TWICE, 0, 2, "a", 5), (1, 0, "a", 5))
        self.assertEqual(change_at(run, TWICE, 0, 3, "b", 0), (2, 0, "b", 0))

    def test_in_a_frame_above_and_in_a_loop(self):
        made = (("main", 4, 5), COUNTDOWN.procedure("main")[2][4:6], (0, 1, 2))
        run = Run(COUNTDOWN, [2])
        self.assertEqual(change_at(run, made, 3, 1, "s", 9), (4, 0, "s", 9))
        self.assertEqual(change_at(run, made, 7, 2, "n", 9), (9, 0, "n", 9))
        for begin in (0, 2, 4, 8, 11, 12):
            self.assertEqual(self.told(NoMoment, change_at, run, made, begin, 1, "s", 9), begin)

    def test_a_good_put_is_the_plain_what_if(self):
        chance = chance_of(1305)
        many = 0
        for _ in range(60):
            run = random_run(chance, 80)
            for program, made, stop, variable in wishes(chance, run.program(), 6):
                if len(sites_at(program, made, stop, variable)) > 7:
                    continue
                begins = [t for t in range(run.last()) if run.spot_at(t) == made[0][:2]]
                closed = closed_puts(program, made, stop, variable)
                if not begins or not closed:
                    continue
                begin = chance.choice(begins)
                value = chance.randrange(9973)
                change = change_at(run, made, begin, stop, variable, value)
                born = run.state(begin)[1][-1][0]
                self.assertEqual(change, (begin + made[2][stop], born, variable, value))
                try:
                    branch = branch_of(run, [change])
                except TooMany:
                    continue
                end = begin + made[0][2] - made[0][1] + 1
                values = dict(run.state(begin)[1][-1][3])
                for put in closed:
                    told = homes_behind(program, made, stop, variable, put, value, values)
                    self.assertEqual(told, {one: branch.cell_at(end, (born, one)) for one in told})
                    many += 1
        self.assertGreater(many, 60)

    def test_errors(self):
        run = Run(SUMS)
        branch = Run(SUMS, (), [(0, 0, "a", 1)])
        self.refuses_all(NoRun, odd_values() + [branch], change_at, behind=(None,) * 5)
        self.refuses_all(NoMade, odd_values() + [ANEW_MADE, (SUM, TWICE[1][:2], (0, 0, 2))], change_at, run,
                         behind=(None,) * 4)
        self.refuses_all(NoMoment, odd_values() + [1, 2, 3], change_at, run, TWICE, behind=(None,) * 3)
        self.refuses_all(NoStop, odd_values() + [4], change_at, run, TWICE, 0, behind=(None,) * 2)
        self.refuses_all(NoVariable, odd_values() + ["d", "r0"], change_at, run, TWICE, 0, 1, behind=(None,))
        self.refuses_all(NoValue, odd_values() + [9973], change_at, run, TWICE, 0, 1, "a")


if __name__ == "__main__":
    unittest.main()
