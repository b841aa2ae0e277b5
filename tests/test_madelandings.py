"""Promise [19]: begins, needs, what hinders, goals and papers of made landings; of [0.2] (b) and (f)."""

import unittest

from plainmoment.edits import Edit
from plainmoment.errors import NoEdit, NoLanding, NoMade, NoMoment, NoRun, NoStop, TooMany
from plainmoment.landings import goal, gone_behind, led_on, spoilt
from plainmoment.made import is_right, table_at
from plainmoment.madelandings import (accepts_made, begins, hinders_at, landing_stops, made_goal, made_paper,
                                      made_shown, needs_at, suits)
from plainmoment.runs import Run
from plainmoment.stretches import stretches
from tests.samples import (COUNTDOWN, Odd, Told, chance_of, edited, live_anew, odd_values, plain, random_run, right_made)

OLD = plain((("get", "x"), ("set", "y", "add", "x", 1), ("set", "x", "mul", "y", 2), ("out", "x"), ("back", "x")))
NEW = plain((("get", "x"), ("set", "y", "add", "x", 1), ("set", "x", "mul", "y", 2), ("copy", "z", 7), ("out", "x"),
             ("back", "x")))
ROWS = ((0, 0), (1, 1), (2, 2), (3, 4), (4, 5))
EDIT = Edit(OLD, NEW, [(("main", one), ("main", other)) for one, other in ROWS])
RUN = Run(OLD, [5])

# At stop 1 x is in no place, and read by row 1; at stop 2 both y and x are in none; at stop 3 all is there.
MADE = (("main", 1, 2), (("set", "x", "add", "x", 1), ("copy", "y", "x"), ("set", "x", "mul", "y", 2)), (0, 0, 1, 2))

# The other program reads w and y behind the stretch; the first one has no w.
READS = plain((("get", "x"), ("set", "y", "add", "x", 1), ("set", "x", "mul", "y", 2), ("out", "x"), ("out", "w"),
               ("back", "y")))
SAME_ROWS = Edit(OLD, READS, [(("main", at), ("main", at)) for at in (0, 1, 2, 3)])

LATE = (("main", 4, 5), (("copy", "r0", "n"), ("set", "n", "sub", "n", 1), ("set", "s", "add", "s", "r0")), (0, 0, 0, 2))
SAME = Edit.same(COUNTDOWN)

# The other program never ends by itself.
ENDLESS = Edit(OLD, plain((("get", "x"), ("go", 1))), [(("main", 0), ("main", 0))])


def right_mades(chance, program):
    found = [right_made(chance, program, stretch) for stretch in stretches(program)]
    return [made for made in found if is_right(program, made)]


def cases(seed, many, most=60):
    """Runs without changes, edits of their programs with own runs, and right made stretches."""
    chance = chance_of(seed)
    done = 0
    while done < many:
        run = random_run(chance, most)
        for made in right_mades(chance, run.program()):
            edit = Edit.same(run.program()) if chance.random() < 0.3 else edited(chance, run.program())
            try:
                own = Run(edit.new(), run.inputs())
            except TooMany:
                continue
            yield run, edit, own, made
            done += 1


class Begins(Told):
    def test_ordinary(self):
        self.assertEqual(begins(RUN, MADE), [1])
        self.assertEqual(begins(Run(COUNTDOWN, [3]), LATE), [3, 7, 11])
        self.assertEqual(begins(Run(COUNTDOWN, [0]), LATE), [])

    def test_errors(self):
        self.refuses_all(NoRun, [*odd_values(), Run(OLD, [5], [(0, 0, "x", 0)])], begins, behind=(None,))
        wrong = (MADE[0], MADE[1][:1], (0, 2))
        self.refuses_all(NoMade, [*odd_values(), LATE, wrong], begins, RUN)


class Needs(Told):
    def test_ordinary(self):
        self.assertEqual([needs_at(EDIT, MADE, stop) for stop in range(4)], [("x",), ("x",), ("y",), ("x",)])
        self.assertEqual([hinders_at(EDIT, MADE, stop) for stop in range(4)], [(), ("x",), (), ()])
        self.assertEqual([suits(EDIT, MADE, stop) for stop in range(4)], [True, False, True, True])

    def test_a_need_that_the_first_procedure_lacks_is_told(self):
        self.assertEqual(needs_at(SAME_ROWS, MADE, 3), ("w", "x", "y"))
        self.assertEqual(hinders_at(SAME_ROWS, MADE, 3), ())
        self.assertEqual(needs_at(SAME_ROWS, MADE, 1), ("w", "x"))
        self.assertEqual(hinders_at(SAME_ROWS, MADE, 1), ("x",))

    def test_rows_that_are_not_told(self):
        bare = Edit(OLD, NEW, [(("main", 1), ("main", 1))])
        self.assertEqual([needs_at(bare, MADE, stop) for stop in range(4)], [("x",), ("x",), None, None])
        self.assertIsNone(hinders_at(bare, MADE, 3))
        self.assertIs(suits(bare, MADE, 3), False)

    def test_the_row_behind_the_stretch(self):
        self.assertEqual(needs_at(SAME, LATE, 3), ("n", "s"))
        self.assertEqual(needs_at(Edit(COUNTDOWN, COUNTDOWN, [(("main", 6), ("main", 3))]), LATE, 3), ("s",))
        self.assertEqual([hinders_at(SAME, LATE, stop) for stop in range(4)], [(), (), (), ()])

    def test_by_chance(self):
        many = 0
        for run, edit, _, made in cases(191, 120):
            name, first, _ = made[0]
            for stop, label in enumerate(made[2]):
                to = edit.to((name, first + label))
                if to is None:
                    self.assertIsNone(needs_at(edit, made, stop))
                    self.assertIsNone(hinders_at(edit, made, stop))
                    self.assertIs(suits(edit, made, stop), False)
                    continue
                live = live_anew(edit.new(), to)
                table = table_at(run.program(), made, stop)
                hinders = tuple(one for one in live if table.get(one, "0") is None)
                self.assertEqual(needs_at(edit, made, stop), live)
                self.assertEqual(hinders_at(edit, made, stop), hinders)
                self.assertIs(suits(edit, made, stop), not hinders)
                many += bool(hinders)
        self.assertGreater(many, 10)

    def test_errors(self):
        for function in (needs_at, hinders_at, suits):
            self.refuses_all(NoEdit, [*odd_values(), OLD], function, behind=(None, None))
            self.refuses_all(NoMade, [*odd_values(), LATE], function, EDIT, behind=(None,))
            self.refuses_all(NoStop, [*odd_values(), 4], function, EDIT, MADE)


class Goals(Told):
    def test_ordinary(self):
        self.assertEqual([made_goal(RUN, EDIT, MADE, 1, stop) for stop in range(4)], [1, None, 2, 4])
        self.assertEqual(landing_stops(RUN, EDIT, MADE, 1), [0, 2, 3])

    def test_what_is_shown(self):
        self.assertEqual(made_shown(RUN, EDIT, MADE, 1, 0), {"x": 5, "y": None, "z": None})
        self.assertEqual(made_shown(RUN, EDIT, MADE, 1, 2), {"x": None, "y": 6, "z": None})
        self.assertEqual(made_shown(RUN, EDIT, MADE, 1, 3), {"x": 12, "y": None, "z": None})
        self.assertEqual(list(made_shown(RUN, EDIT, MADE, 1, 3)), ["x", "y", "z"])
        self.assertIsNone(self.told(NoLanding, made_shown, RUN, EDIT, MADE, 1, 1))

    def test_the_identity_shows_all_where_nothing_is_gone(self):
        run = Run(COUNTDOWN, [3])
        self.assertEqual(landing_stops(run, SAME, LATE, 7), [0, 1, 2, 3])
        self.assertEqual(made_shown(run, SAME, LATE, 7, 0), {"n": 2, "s": 3})
        # Where something is gone, what is not live is gone, too.
        moved = (("main", 1, 2), (("copy", "r0", "y"), ("copy", "y", 9), *MADE[1]), (0, 0, 0, 0, 1, 2))
        same = Edit.same(OLD)
        self.assertEqual(table_at(OLD, moved, 1), {"x": "x", "y": "y"})
        self.assertEqual(made_shown(RUN, same, moved, 1, 1), {"x": 5, "y": 0})
        self.assertEqual(made_shown(RUN, same, moved, 1, 2), {"x": 5, "y": 0})
        lost = (("main", 1, 2), (("copy", "y", 9), *MADE[1]), (0, 0, 0, 1, 2))
        self.assertEqual(made_shown(RUN, same, lost, 1, 1), {"x": 5, "y": None})

    def test_papers(self):
        self.assertEqual([made_paper(RUN, EDIT, MADE, 1, stop) for stop in range(4)], [
            ("lands", 1, 0, 1), ("hindered", 1, 1, "x"), ("lands", 1, 2, 2), ("lands", 1, 3, 4)])
        # It suits, and yet there is no goal: the other program puts out something else ahead.
        other = plain((("get", "x"), ("set", "y", "add", "x", 2), ("set", "x", "mul", "y", 2), ("out", "x"), ("back", "x")))
        edit = Edit(OLD, other, [(("main", at), ("main", at)) for at in range(5)])
        self.assertIs(suits(edit, MADE, 3), True)
        self.assertIsNone(made_paper(RUN, edit, MADE, 1, 3))
        bare = Edit(OLD, NEW, [(("main", 1), ("main", 1))])
        self.assertIsNone(made_paper(RUN, bare, MADE, 1, 3))

    def test_any_need_that_hinders(self):
        reads = plain((("get", "x"), ("set", "y", "add", "x", "y"), ("out", "x"), ("back", "y")))
        edit = Edit(OLD, reads, [(("main", at), ("main", at)) for at in range(2)])
        lost = (("main", 1, 2), (("set", "x", "add", "x", 1), ("copy", "y", 9), ("copy", "y", "x"),
                                 ("set", "x", "mul", "y", 2)), (0, 0, 0, 1, 2))
        self.assertEqual(hinders_at(edit, lost, 2), ("x", "y"))
        self.assertEqual(made_paper(RUN, edit, lost, 1, 2), ("hindered", 1, 2, "x"))
        self.assertIs(accepts_made(RUN, edit, lost, ("hindered", 1, 2, "y")), True)
        self.assertIs(accepts_made(RUN, edit, lost, ("hindered", 1, 1, "y")), False)

    def test_wrong_papers(self):
        for stop in range(4):
            self.assertIs(accepts_made(RUN, EDIT, MADE, made_paper(RUN, EDIT, MADE, 1, stop)), True)
        self.likes_none(odd_values() + [
            ("lands", 5, 0, 1), ("lands", 6, 0, 1), ("hindered", 5, 1, "x"), ("hinders", 1, 1, "x"),
            ("lands", 1, 0, 2), ("lands", 1, 1, None), ("lands", 1, 1, 1), ("lands", 2, 0, 1), ("lands", True, 0, 1),
            ("lands", 1, False, 1), ("lands", 1, 0, True), ("lands", 1, 4, 4), ("lands", 1, -1, 4), ("lands", 1, 0),
            ("lands", 1, 0, 1, 1), ["lands", 1, 0, 1], ("lands", 9, 0, 1), ("lands", 1, 0, 1.0), ("landed", 1, 0, 1),
            ("lands", Odd(), 0, 1), ("lands", 1, Odd(), 1), ("lands", 1, 0, Odd()), (Odd(), 1, 0, 1), ("lands", 1, 0, "x"),
            ("hindered", 1, 0, "x"), ("hindered", 1, 1, "y"), ("hindered", 1, 1, "z"), ("hindered", 1, 1, None),
            ("hindered", 0, 1, "x"), ("hindered", 1, 1, Odd()), ("hindered", 1, Odd(), "x"), ("hindered", 1, 1, 1),
            ("hindered", 1, 3, "x")], accepts_made, RUN, EDIT, MADE)
        self.assertIs(accepts_made(RUN, EDIT, MADE, ("hindered", 1, 1, "x")), True)

    def test_by_chance_as_the_document_says(self):
        landed = hindered = 0
        for run, edit, own, made in cases(192, 150):
            for begin in begins(run, made)[:4]:
                stops = []
                born = run.state(begin)[1][-1][0]
                for stop, label in enumerate(made[2]):
                    t = begin + label
                    table = table_at(run.program(), made, stop)
                    gone = [(born, one) for one in table if table[one] is None]
                    to = goal(run, edit, t, gone) if suits(edit, made, stop) else None
                    self.assertEqual(made_goal(run, edit, made, begin, stop), to)
                    paper = made_paper(run, edit, made, begin, stop)
                    if to is not None:
                        stops.append(stop)
                        self.assertEqual(paper, ("lands", begin, stop, to))
                        self.check_shown(run, edit, own, made, begin, stop, gone_behind(run, edit, t, gone))
                        self.assertIsNone(spoilt(run, edit, t))
                        self.assertEqual(led_on(run, edit, t), (own.outputs(), own.result()))
                        landed += 1
                    elif hinders_at(edit, made, stop):
                        self.assertEqual(paper, ("hindered", begin, stop, hinders_at(edit, made, stop)[0]))
                        hindered += 1
                    else:
                        self.assertIsNone(paper)
                    self.assertIs(accepts_made(run, edit, made, paper), paper is not None)
                self.assertEqual(landing_stops(run, edit, made, begin), stops)
        self.assertGreater(min(landed, 4 * hindered), 30)

    def check_shown(self, run, edit, own, made, begin, stop, gone):
        to = made_goal(run, edit, made, begin, stop)
        born, name, _, values = own.state(to)[1][-1]
        told = {one: None if (born, one) in gone else dict(values).get(one, 0) for one in edit.new().variables_of(name)}
        shown = made_shown(run, edit, made, begin, stop)
        self.assertEqual((shown, list(shown)), (told, sorted(told)))


class Errors(Told):
    def test_order(self):
        for function, behind in ((made_goal, True), (made_shown, True), (made_paper, True), (landing_stops, False)):
            last = (None,) if behind else ()
            stop = (0,) if behind else ()
            changed = Run(OLD, [5], [(0, 0, "x", 0)])
            self.refuses_all(NoRun, [*odd_values(), changed], function, behind=(None, None, None, *last))
            self.refuses_all(NoEdit, [*odd_values(), SAME], function, RUN, behind=(None, None, *last))
            self.refuses_all(NoMade, [*odd_values(), LATE], function, RUN, EDIT, behind=(None, *last))
            self.refuses_all(NoMoment, [*odd_values(), 0, 2, 5, 6], function, RUN, EDIT, MADE, behind=last)
            if behind:
                self.refuses_all(NoStop, [*odd_values(), 4], function, RUN, EDIT, MADE, 1)
            # Behind these what the own run raises, also where the edit does not suit.
            self.assertEqual(self.most(function, RUN, ENDLESS, MADE, 1, *stop), 600)
        self.refuses_all(NoRun, odd_values(), accepts_made, behind=(None, None, None))
        self.refuses_all(NoEdit, [*odd_values(), SAME], accepts_made, RUN, behind=(None, None))
        self.refuses_all(NoMade, [*odd_values(), LATE], accepts_made, RUN, EDIT, behind=(None,))

    def test_which_papers_ask_the_own_run(self):
        self.assertEqual(self.most(accepts_made, RUN, ENDLESS, MADE, ("lands", 1, 0, 1)), 600)
        self.assertEqual(self.most(accepts_made, RUN, ENDLESS, MADE, ("lands", 1, 3, 1000)), 600)
        for paper in (("hindered", 1, 0, "x"), None, ("lands", 1, 0)):
            self.assertIs(accepts_made(RUN, ENDLESS, MADE, paper), False)
        endless = plain((("get", "x"), ("go", 1), ("out", "x"), ("back", 1)))
        edit = Edit(OLD, endless, [(("main", 1), ("main", 2))])
        self.assertIs(accepts_made(RUN, edit, MADE, ("hindered", 1, 1, "x")), True)
        self.assertEqual(self.most(made_paper, RUN, edit, MADE, 1, 1), 600)


if __name__ == "__main__":
    unittest.main()
