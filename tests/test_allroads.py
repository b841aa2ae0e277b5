"""Promise [18]: journeys, costs, best kept moments, sights and menus; of [0.2] (b), (c) and (h)."""

import unittest
from itertools import combinations

from plainmoment.allroads import (accepts_sight, best_kept, is_still, journey_changes, journey_moments, least_menus,
                                  moments_like, sight_at, sight_paper, step_cost, tells, visits_cost)
from plainmoment.errors import NoCount, NoMenu, NoMoment, NoRoad, NoRun
from plainmoment.runs import Run
from tests.samples import CALLER, COUNTDOWN, Odd, Told, chance_of, changed_run, odd_values, random_run

RUN = Run(COUNTDOWN, [3])
CALLED = Run(CALLER, [4])


def some_runs(seed, many, most=60):
    chance = chance_of(seed)
    for _ in range(many):
        yield chance, changed_run(chance, most) if chance.random() < 0.5 else random_run(chance, most)


def changes_anew(run, puts):
    own = [(change[0], 0, at, change) for at, change in enumerate(run.changes())]
    return tuple(told[3] for told in sorted(own + [(put[0], 1, at, put) for at, put in enumerate(puts)]))


def hop_by_chance(chance, run, t):
    word = chance.choice(("on", "back", "from", "put", "put", "put"))
    if word in ("on", "back"):
        return (word, chance.choice((0, 1, chance.randrange(run.last() + 1))))
    if word == "from":
        m = chance.randrange(run.last() + 1)
        return (word, m, chance.randrange(m, run.last() + 1))
    frame = chance.choice(run.state(t)[1] or ((0, "main", 0, ()),))
    return (word, frame[0], chance.choice(run.program().variables_of(frame[1]) or ["x"]))


class Stills(Told):
    def test_ordinary(self):
        self.assertIs(is_still(RUN, (2, 0, "n", 3)), True)
        self.assertIs(is_still(RUN, (0, 0, "s", 0)), True)
        self.assertIs(is_still(RUN, (RUN.last() - 1, 0, "s", 6)), True)
        self.likes_none([(2, 0, "n", 2), (2, 1, "n", 3), (2, 0, "x", 0), (RUN.last(), 0, "s", 6), (-1, 0, "n", 0),
                         [2, 0, "n", 3], (2, 0, "n"), (2, 0, "n", 3, 0), (True, 0, "n", 3), (2, False, "n", 3),
                         (0, 0, "n", False), (2, 0, "n", None), (2, 0, "n", Odd()), (Odd(), 0, "n", 3), (2, Odd(), "n", 3),
                         (2, 0, Odd(), 3)] + odd_values(), is_still, RUN)
        self.assertIs(is_still(Run(COUNTDOWN, [3], [(2, 0, "n", 7)]), (2, 0, "n", 7)), True)

    def test_errors(self):
        self.refuses_all(NoRun, odd_values(), is_still, behind=(None,))


class Journeys(Told):
    def test_ordinary(self):
        journey = [("on", 5), ("back", 2), ("from", 7, 9), ("from", 4, 4), ("on", 0), ("back", 0)]
        self.assertEqual(journey_moments(RUN, journey), [5, 3, 9, 4, 4, 4])
        self.assertEqual(journey_moments(RUN, ()), [])
        self.assertEqual(journey_changes(RUN, journey), ())
        self.assertEqual(journey_moments(RUN, [("from", 0, RUN.last()), ("back", RUN.last())]), [RUN.last(), 0])

    def test_puts(self):
        self.assertEqual(journey_changes(RUN, (("on", 2), ("put", 0, "n"), ("put", 0, "s"), ("put", 0, "n"))),
                         ((2, 0, "n", 3), (2, 0, "s", 0), (2, 0, "n", 3)))
        # A put takes away what is put at moments above, and not at its own.
        journey = [("on", 2), ("put", 0, "n"), ("on", 3), ("put", 0, "s"), ("back", 3), ("put", 0, "s")]
        self.assertEqual(journey_changes(RUN, journey[:4]), ((2, 0, "n", 3), (5, 0, "s", 3)))
        self.assertEqual(journey_changes(RUN, journey), ((2, 0, "n", 3), (2, 0, "s", 0)))
        self.assertEqual(journey_changes(RUN, journey[:5]), ((2, 0, "n", 3), (5, 0, "s", 3)))

    def test_changes_of_the_run_stand_ahead(self):
        run = Run(COUNTDOWN, [3], [(2, 0, "s", 4), (2, 0, "n", 1), (4, 0, "n", 1)])
        journey = [("on", 1), ("put", 0, "n"), ("on", 1), ("put", 0, "s"), ("on", 3), ("put", 0, "s")]
        self.assertEqual(journey_changes(run, journey), (
            (1, 0, "n", 3), (2, 0, "s", 4), (2, 0, "n", 1), (2, 0, "s", 4), (4, 0, "n", 1), (5, 0, "s", 5)))

    def test_no_more_than_eight(self):
        puts = [("put", 0, "n")]
        self.assertEqual(len(journey_changes(RUN, 8 * puts)), 8)
        self.assertEqual(self.told(NoRoad, journey_moments, RUN, 9 * puts), 8)
        run = Run(COUNTDOWN, [3], 3 * [(1, 0, "n", 3)])
        self.assertEqual(self.told(NoRoad, journey_changes, run, [*(5 * puts), ("on", 1), *puts]), 6)
        # What a put takes away makes room.
        self.assertEqual(len(journey_changes(RUN, [("on", 1), *(8 * puts), ("back", 1), *puts])), 1)

    def test_journeys_that_do_not_go(self):
        last = RUN.last()
        for journey, index in (([("on", last + 1)], 0), ([("on", 1), ("back", 2)], 1), ([("from", last + 1, last + 1)], 0),
                               ([("from", 3, 2)], 0), ([("from", 3, last + 1)], 0), ([("on", last), ("put", 0, "s")], 1),
                               ([("put", 1, "s")], 0), ([("on", 1), ("put", 0, "x")], 1), ([("on", -1)], 0),
                               ([("back", -1)], 0), ([("from", -1, 2)], 0), ([("on", 0), ("hop", 1)], 1),
                               ([("on", 10 ** 60)], 0), ([("on", 1), ("on", last)], 1)):
            self.assertEqual(self.told(NoRoad, journey_moments, RUN, journey), index)
            self.assertEqual(self.told(NoRoad, journey_changes, RUN, journey), index)

    def test_no_journeys(self):
        hops = [["on", 1], ("hop", 0, "n"), ("hop", 0, 0), ("on",), ("on", 1, 1), ("on", True), ("on", "1"), ("back", None), ("from", 1), ("from", 1, 2, 3),
                ("from", False, 1), ("from", 0, True), ("put", 0), ("put", 0, "n", 3), ("put", False, "n"),
                ("put", "n", 0), (Odd(),), ("on", Odd()), ("from", Odd(), 1), ("from", 0, Odd()), ("put", Odd(), "n"),
                ("put", 0, Odd())]
        for function in (journey_moments, journey_changes):
            self.refuses_all(NoRun, odd_values(), function, behind=(None,))
            for value in odd_values():
                if not isinstance(value, (list, tuple)):
                    self.assertIsNone(self.told(NoRoad, function, RUN, value))
            for hop in hops + odd_values():
                self.assertEqual(self.told(NoRoad, function, RUN, [("on", 1), hop]), 1)
            self.assertIsNone(self.told(NoRoad, function, RUN, 21 * [("on", 0)]))
            self.assertEqual(len(journey_moments(RUN, 20 * [("on", 0)])), 20)

    def test_all_come_to_the_one_state_of_their_moment(self):
        many = 0
        for chance, run in some_runs(181, 60):
            journey, moments, puts, t = [], [], [], 0
            for _ in range(chance.randrange(21)):
                hop = hop_by_chance(chance, run, t)
                to = {"on": t + hop[1], "back": t - hop[1], "from": hop[-1], "put": t}[hop[0]]
                after = puts
                goes = 0 <= to <= run.last() and (hop[0] != "put" or t < run.last()) if to.__class__ is int else False
                if goes and hop[0] == "put":
                    goes = hop[2] in [name for frame in run.state(t)[1] if frame[0] == hop[1]
                                      for name in run.program().variables_of(frame[1])]
                    if goes:
                        after = [put for put in puts if put[0] <= t] + [(t, *hop[1:], run.cell_at(t, hop[1:]))]
                        goes = len(after) + len(run.changes()) <= 8
                if not goes:
                    self.assertEqual(self.told(NoRoad, journey_moments, run, [*journey, hop]), len(journey))
                    continue
                journey.append(hop)
                moments.append(to)
                puts, t = after, to
            self.assertEqual(journey_moments(run, journey), moments)
            changes = journey_changes(run, journey)
            self.assertEqual(changes, changes_anew(run, puts))
            other = Run(run.program(), run.inputs(), changes)
            self.assertTrue(all(other.state(at) == run.state(at) for at in range(run.last() + 1)))
            self.assertTrue(all(is_still(run, put) for put in puts))
            many += len(puts)
        self.assertGreater(many, 50)


class Costs(Told):
    def cost_anew(self, kept, now, t, back):
        costs = [t - k for k in kept if k <= t] + ([k - t for k in kept if k > t] if back else [])
        if now is not None and (now <= t or back):
            costs.append(abs(now - t))
        return min(costs)

    def test_ordinary(self):
        kept = (0, 6, 9)
        self.assertEqual([step_cost(RUN, kept, None, t) for t in range(12)], [0, 1, 2, 3, 4, 5, 0, 1, 2, 0, 1, 2])
        self.assertEqual([step_cost(RUN, list(kept), None, t, back=True) for t in range(12)],
                         [0, 1, 2, 3, 2, 1, 0, 1, 1, 0, 1, 2])
        self.assertEqual([step_cost(RUN, kept, 4, t) for t in range(8)], [0, 1, 2, 3, 0, 1, 0, 1])
        self.assertEqual([step_cost(RUN, kept, 4, t, back=True) for t in range(8)], [0, 1, 2, 1, 0, 1, 0, 1])
        self.assertEqual(step_cost(RUN, [0], 8, 7), 7)
        self.assertEqual(step_cost(RUN, [0], 8, 7, back=True), 1)

    def test_any_value_but_true_is_false(self):
        for back in (1, "yes", None, 0, [], Odd()):
            self.assertEqual(step_cost(RUN, [0], 8, 7, back=back), 7)
            self.assertEqual(visits_cost(RUN, [0], [8, 7], back=back), 15)
            self.assertEqual(best_kept(RUN, [8, 7], 1, back=back), ((0,), 15))

    def test_visits(self):
        self.assertEqual(visits_cost(RUN, [0], []), 0)
        self.assertEqual(visits_cost(RUN, [0, 6], [7, 5, 9, 8]), 1 + 5 + 3 + 2)
        self.assertEqual(visits_cost(RUN, [0, 6], (7, 5, 9, 8), back=True), 1 + 1 + 3 + 1)

    def test_best_kept(self):
        self.assertEqual(best_kept(RUN, [], 4), ((0,), 0))
        self.assertEqual(best_kept(RUN, [8, 7], 1), ((0,), 15))
        self.assertEqual(best_kept(RUN, [9, 9], 2), ((0, 9), 0))
        self.assertEqual(best_kept(RUN, [9, 9], 1), ((0,), 9))
        self.assertEqual(best_kept(RUN, [9, 5, 9, 5], 2), ((0, 5), 8))
        self.assertEqual(best_kept(RUN, [9, 5, 9, 5], 3, back=True), ((0, 5, 9), 0))
        self.assertEqual(best_kept(RUN, [0, 0], 4), ((0,), 0))

    def test_best_kept_held_against_all_tuples(self):
        for chance, run in some_runs(182, 25, 14):
            visits = [chance.randrange(run.last() + 1) for _ in range(chance.randrange(9))]
            for back in (False, True):
                for many in range(1, 5):
                    kept, cost = best_kept(run, visits, many, back=back)
                    self.assertEqual(cost, visits_cost(run, kept, visits, back=back))
                    self.assertLessEqual(len(kept), many)
                    found = []
                    for size in range(many):
                        for others in combinations(range(1, run.last() + 1), size):
                            nows = [None, *visits]
                            told = sum(self.cost_anew((0, *others), now, t, back) for now, t in zip(nows, visits))
                            found.append((told, len(others), (0, *others)))
                    among = [told for told in found if set(told[2]) <= {0, *visits}]
                    self.assertEqual((cost, kept), (min(found)[0], min(among)[2]))

    def test_costs_by_chance(self):
        for chance, run in some_runs(183, 30):
            kept = sorted({0, *(chance.randrange(run.last() + 1) for _ in range(3))})
            for _ in range(20):
                now = chance.choice((None, chance.randrange(run.last() + 1)))
                t = chance.randrange(run.last() + 1)
                for back in (False, True):
                    self.assertEqual(step_cost(run, kept, now, t, back=back), self.cost_anew(kept, now, t, back))

    def test_errors(self):
        last = RUN.last()
        wrong = [*odd_values(), [1, 2], [0, 2, 2], [0, 3, 2], [0, last + 1], (False, 1), {0: 1}, [0, Odd()]]
        self.refuses_all(NoRun, odd_values(), step_cost, behind=(None, Odd(), Odd()))
        self.refuses_all(NoCount, wrong, step_cost, RUN, behind=(Odd(), Odd()))
        moments = [*odd_values(), last + 1]
        self.refuses_all(NoMoment, [value for value in moments if value is not None], step_cost, RUN, [0], behind=(None,))
        self.refuses_all(NoMoment, moments, step_cost, RUN, [0], None)
        self.refuses_all(NoRun, odd_values(), visits_cost, behind=(None, None))
        self.refuses_all(NoCount, wrong, visits_cost, RUN, behind=(None,))
        visits = [value for value in odd_values() if not isinstance(value, (list, tuple))]
        visits += [[True], ["a"], [None], [last + 1], [-1], 9 * [0], (0, 1.0), [Odd()]]
        self.refuses_all(NoMoment, visits, visits_cost, RUN, [0])
        self.assertEqual(visits_cost(RUN, [0], 8 * [0]), 0)
        self.refuses_all(NoRun, odd_values(), best_kept, behind=(None, None))
        self.refuses_all(NoMoment, visits, best_kept, RUN, behind=(None,))
        self.refuses_all(NoCount, [*odd_values(), 0, 5], best_kept, RUN, [1])
        with self.assertRaises(TypeError):
            step_cost(RUN, [0], None, 1, True)


class Sights(Told):
    def sight_anew(self, run, t, menu):
        if t == run.last():
            return (None, ())
        _, name, index, values = run.state(t)[1][-1]
        has = run.program().variables_of(name)
        return ((name, index), tuple(dict(values).get(one, 0) if one in has else None for one in menu))

    def test_ordinary(self):
        self.assertEqual(sight_at(RUN, 2, ["n", "s", "x"]), (("main", 2), (3, 0, None)))
        self.assertEqual(sight_at(RUN, RUN.last(), ("n",)), (None, ()))
        self.assertEqual(sight_at(RUN, 0, []), (("main", 0), ()))
        self.assertEqual(moments_like(RUN, 2, ["x"]), [2, 6, 10, 14])
        self.assertEqual(moments_like(RUN, 6, ["n"]), [6])
        self.assertIs(tells(RUN, 6, ["n"]), True)
        self.assertIs(tells(RUN, 6, ["x"]), False)
        self.assertIs(tells(RUN, RUN.last(), []), True)

    def test_least_menus(self):
        self.assertEqual(least_menus(RUN, 2, ["x", "s", "n"]), [("s",), ("n",)])
        self.assertEqual(least_menus(RUN, 0, ["x", "s", "n"]), [()])
        self.assertEqual(least_menus(RUN, RUN.last(), []), [()])
        self.assertEqual(least_menus(RUN, 2, ("x",)), [])
        self.assertEqual(least_menus(RUN, 2, ()), [])

    def test_papers(self):
        self.assertEqual(sight_paper(RUN, 2, ["x", "s", "n"]), ("told", 2, ("s",)))
        self.assertEqual(sight_paper(RUN, 6, ["x"]), ("alike", 6, 2, ("x",)))
        self.assertEqual(sight_paper(RUN, 2, ["x"]), ("alike", 2, 6, ("x",)))
        self.assertEqual(sight_paper(RUN, 0, ["n"]), ("told", 0, ()))

    def test_papers_that_are_right_though_not_told(self):
        for paper in (("told", 2, ("s", "n")), ("told", 2, ("s", "x", "n")), ("told", 0, ("x",)), ("alike", 2, 10, ("x",)),
                      ("alike", 10, 2, ()), ("told", RUN.last(), ())):
            self.assertIs(accepts_sight(RUN, paper), True, paper)

    def test_wrong_papers(self):
        last = RUN.last()
        self.likes_none(odd_values() + [
            ("told", 2, ("x",)), ("told", 2, ["s"]), ("told", 2), ("told", 2, ("s",), 1), ("told", True, ()), ("told", -1, ()),
            ("told", last + 1, ()), ("told", 0, ("n", "n")), ("told", 0, ("N",)), ("told", 0, (1,)), ("told", 0, Odd()),
            ("told", 0, (Odd(),)), (Odd(), 0, ()), ("told", Odd(), ()), ("tell", 0, ()), ("told", 0, None),
            ("alike", 2, 2, ("x",)), ("like", 2, 6, ("x",)), ("alike", 2, 6, ("n",)), ("alike", 2, 6, ["x"]), ("alike", 2, 6), ("alike", 2, 3, ()),
            ("alike", last, last, ()), ("alike", 2, last, ()), ("alike", 2, last + 4, ()), ("alike", 2, True, ()),
            ("alike", 2, Odd(), ()), ("alike", Odd(), 2, ()), ["alike", 2, 6, ("x",)], ("alike", 2, 6, ("x", "x")),
            ("told", 0, tuple("abcdefghi")), ("alike", 2, 6, tuple("abcdefghi")), ("alike", 0, ()), ("told", 2, 6, ("s",)),
            ], accepts_sight, RUN)
        self.assertIs(accepts_sight(RUN, ("told", 0, tuple("abcdefgh"))), True)

    def test_by_chance_held_against_all_parts(self):
        told = {"told": 0, "alike": 0}
        many = 0
        for chance, run in some_runs(184, 60, 80):
            names = sorted({name for one in run.program().names() for name in run.program().variables_of(one)} | {"q"})
            menu = chance.sample(names, chance.randrange(min(len(names), 6) + 1))
            for t in chance.sample(range(run.last() + 1), min(6, run.last() + 1)):
                sights = [self.sight_anew(run, at, menu) for at in range(run.last() + 1)]
                self.assertEqual(sight_at(run, t, menu), sights[t])
                like = [at for at in range(run.last() + 1) if sights[at] == sights[t]]
                self.assertEqual(moments_like(run, t, menu), like)
                self.assertIs(tells(run, t, menu), len(like) == 1)
                parts = [part for size in range(len(menu) + 1) for part in combinations(menu, size)]
                good = [part for part in parts if len(moments_like(run, t, part)) == 1]
                least = [part for part in good if not any(set(other) < set(part) for other in good)]
                self.assertEqual(least_menus(run, t, menu), least)
                paper = sight_paper(run, t, menu)
                self.assertIs(accepts_sight(run, paper), True)
                told[paper[0]] += 1
                many += len(least) > 1
                if len(like) > 1:
                    self.assertEqual(paper, ("alike", t, [at for at in like if at != t][0], tuple(menu)))
                else:
                    self.assertEqual(paper, ("told", t, least[0]))
        self.assertGreater(min(*told.values(), 4 * many), 10)

    def test_frames_of_several_procedures(self):
        self.assertEqual(sight_at(CALLED, 2, ("p", "x")), (("dbl", 0), (4, None)))

    def test_errors(self):
        menus = [value for value in odd_values() if not isinstance(value, (list, tuple))]
        menus += [["n", "n"], ["N"], [1], list("abcdefghi"), [None], [Odd()]]
        for function in (sight_at, moments_like, tells, least_menus, sight_paper):
            self.refuses_all(NoRun, odd_values(), function, behind=(None, None))
            self.refuses_all(NoMoment, [*odd_values(), RUN.last() + 1], function, RUN, behind=(None,))
            self.refuses_all(NoMenu, menus, function, RUN, 2)
            function(RUN, 2, list("abcdefgh"))
        self.refuses_all(NoRun, odd_values(), accepts_sight, behind=(None,))


if __name__ == "__main__":
    unittest.main()
