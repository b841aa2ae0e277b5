"""Promise [14]: edits, their pairs, the identity, and joined edits."""

import unittest

from plainmoment.edits import Edit
from plainmoment.errors import NoEdit, NoProgram, NoSpot
from plainmoment.programs import Program
from tests.samples import CALLER, COUNTDOWN, Odd, Told, chance_of, edited, odd_values, plain, random_program

ONE = Program([
    ("main", (), (("get", "x"), ("call", "y", "f", ("x",)), ("call", "z", "g", ()), ("out", "y"), ("back", "y"))),
    ("f", ("p",), (("back", "p"),)),
    ("g", (), (("back", 7),)),
])

# The second call names f too, and there is one call more, with another x.
OTHER = Program([
    ("main", (), (("call", "y", "g", ()), ("get", "x"), ("call", "z", "f", (1,)), ("call", "x", "g", ()), ("back", 1))),
    ("f", ("q",), (("copy", "p", "q"), ("back", "p"))),
    ("g", (), (("back", 8),)),
])


def at(index, name="main"):
    return (name, index)


def pairs_of(*told):
    return [(at(one), at(other)) for one, other in told]


class Edits(Told):
    def test_pairs(self):
        pairs = [(at(0, "f"), at(1, "f")), *pairs_of((4, 4), (0, 1), (3, 1), (1, 0), (2, 2)), (at(0, "g"), at(0, "g"))]
        edit = Edit(ONE, OTHER, pairs)
        told = [*pairs_of((0, 1), (1, 0), (2, 2), (3, 1), (4, 4)), (at(0, "f"), at(1, "f")), (at(0, "g"), at(0, "g"))]
        self.assertEqual(edit.pairs(), told)
        self.assertEqual(edit.old(), ONE)
        self.assertEqual(edit.new(), OTHER)
        for spot, other in told:
            self.assertEqual(edit.to(spot), other)
        self.assertEqual(Edit(ONE, OTHER, tuple(pairs)), edit)

    def test_what_is_not_told(self):
        edit = Edit(ONE, OTHER, pairs_of((4, 4)))
        self.assertIsNone(edit.to(at(0)))
        self.assertIsNone(edit.to(at(0, "f")))
        self.assertEqual(Edit(ONE, OTHER, ()).pairs(), [])

    def test_spots_that_are_none(self):
        edit = Edit(ONE, OTHER, pairs_of((4, 4)))
        self.refuses_all(NoSpot, odd_values() + [at(5), at(1, "f"), at(0, "h"), ["main", 0], ("main", True)], edit.to)

    def test_several_spots_to_one(self):
        edit = Edit(ONE, OTHER, pairs_of((0, 1), (3, 1), (4, 1)))
        self.assertEqual([edit.to(at(index)) for index in range(5)], [at(1), None, None, at(1), at(1)])

    def test_calls_lead_to_calls_with_the_same_variable(self):
        self.assertEqual(Edit(ONE, OTHER, pairs_of((1, 0))).to(at(1)), at(0))
        self.assertEqual(Edit(ONE, OTHER, pairs_of((2, 2))).to(at(2)), at(2))
        for wrong in ((1, 1), (1, 2), (1, 3), (1, 4), (2, 0), (2, 1), (2, 3)):
            self.assertEqual(self.told(NoEdit, Edit, ONE, OTHER, pairs_of((0, 1), wrong)), 1)

    def test_calls_lead_to_no_other_row_with_this_variable(self):
        one = Program([("main", (), (("call", "x", "f", ()), ("back", 0))), ("f", (), (("back", 0),))])
        rows = (("get", "x"), ("copy", "x", 1), ("set", "x", "add", 1, 1), ("if", "x", 0), ("out", "x"), ("back", "x"))
        other = Program([("main", (), rows), ("f", (), (("back", 0),))])
        for index in range(6):
            self.assertEqual(self.told(NoEdit, Edit, one, other, pairs_of((0, index))), 0)

    def test_others_may_lead_to_calls(self):
        for to in (0, 2, 3):
            self.assertEqual(Edit(ONE, OTHER, pairs_of((0, to), (4, to))).to(at(4)), at(to))

    def test_within_procedures_alone(self):
        self.assertEqual(self.told(NoEdit, Edit, ONE, OTHER, [(at(0), at(0, "f"))]), 0)
        self.assertEqual(self.told(NoEdit, Edit, ONE, OTHER, [(at(0, "f"), at(0, "g"))]), 0)

    def test_names(self):
        swapped = Program([ONE.procedure(name) for name in ("main", "g", "f")])
        for other in (CALLER, COUNTDOWN, swapped):
            self.assertEqual(self.told(NoEdit, Edit, ONE, other, None), "names")
        renamed = plain(COUNTDOWN.procedure("main")[2], "mine")
        self.assertEqual(self.told(NoEdit, Edit, COUNTDOWN, renamed, []), "names")

    def test_errors(self):
        self.refuses_all(NoProgram, odd_values(), Edit, behind=(None, None))
        self.refuses_all(NoProgram, odd_values(), Edit, ONE, behind=(None,))
        for pairs in (None, 0, "", {}, {at(0): at(1)}, range(0), True):
            self.assertIsNone(self.told(NoEdit, Edit, ONE, OTHER, pairs))
        for pair in odd_values() + [
                [at(0), at(1)], (at(0),), (at(0), at(1), 1), (at(5), at(1)), (at(0), at(5)), (at(0), None), (None, at(0)),
                (at(0), ["main", 1]), (("main", False), at(1)), (at(0), ("main", True)), (Odd(), at(1)), (at(0), Odd()),
                (at(4), at(4))]:
            self.assertEqual(self.told(NoEdit, Edit, ONE, OTHER, [(at(4), at(4)), pair, None]), 1)

    def test_each_spot_once(self):
        self.assertEqual(self.told(NoEdit, Edit, ONE, OTHER, pairs_of((0, 1), (3, 1), (0, 1))), 2)
        self.assertEqual(self.told(NoEdit, Edit, ONE, OTHER, pairs_of((0, 1), (0, 4), (0, 1))), 1)

    def test_the_identity(self):
        same = Edit.same(ONE)
        self.assertEqual(same, Edit(ONE, ONE, [(spot, spot) for spot in ONE.spots()]))
        self.assertIs(same.is_same(), True)
        self.assertIs(Edit(ONE, ONE, same.pairs()[::-1]).is_same(), True)
        self.assertIs(Edit(ONE, ONE, same.pairs()[1:]).is_same(), False)
        self.assertIs(Edit(ONE, ONE, pairs_of((0, 0))).is_same(), False)
        self.assertIs(Edit(ONE, ONE, [(at(0), at(4))] + same.pairs()[1:]).is_same(), False)
        self.assertIs(Edit(ONE, OTHER, []).is_same(), False)
        self.assertIs(Edit(ONE, ONE, []).is_same(), False)
        self.refuses_all(NoProgram, odd_values(), Edit.same)
        other = Program([("main", (), (("back", 2),))])
        self.assertIs(Edit(other, Program([("main", (), (("back", 1),))]), pairs_of((0, 0))).is_same(), False)

    def test_joined(self):
        third = Program([(name, OTHER.procedure(name)[1], OTHER.procedure(name)[2][:-1] + (("back", 0),))
                         for name in OTHER.names()])
        one = Edit(ONE, OTHER, pairs_of((0, 1), (1, 0), (3, 1), (4, 4)))
        other = Edit(OTHER, third, pairs_of((1, 3), (0, 0), (2, 2)))
        joined = one.then(other)
        self.assertEqual(joined, Edit(ONE, third, pairs_of((0, 3), (1, 0), (3, 3))))
        self.assertEqual(one.then(Edit.same(OTHER)), one)
        self.assertEqual(Edit.same(ONE).then(one), one)
        self.assertEqual(one.pairs(), pairs_of((0, 1), (1, 0), (3, 1), (4, 4)))
        self.refuses_all(NoEdit, odd_values() + [one, Edit.same(ONE), Edit.same(third), OTHER], one.then)

    def test_joined_by_chance(self):
        chance = chance_of(1401)
        for _ in range(40):
            program = random_program(chance)
            edits = []
            for _ in range(3):
                edits.append(edited(chance, program))
                program = edits[-1].new()
            one, other, third = edits
            joined = one.then(other)
            for spot in one.old().spots():
                between = one.to(spot)
                self.assertEqual(joined.to(spot), None if between is None else other.to(between))
            self.assertEqual(joined.then(third), one.then(other.then(third)))

    def test_equal(self):
        edit = Edit(ONE, OTHER, pairs_of((0, 1), (4, 4)))
        self.assertTrue(edit == Edit(ONE, OTHER, pairs_of((4, 4), (0, 1))))
        self.assertFalse(edit != Edit(ONE, OTHER, pairs_of((4, 4), (0, 1))))
        self.assertFalse(edit == Edit(ONE, OTHER, pairs_of((4, 4), (0, 4))))
        self.assertFalse(edit == Edit(ONE, OTHER, pairs_of((4, 4))))
        self.assertFalse(Edit(ONE, OTHER, []) == Edit(OTHER, ONE, []))
        self.assertFalse(Edit(ONE, ONE, []) == Edit(ONE, OTHER, []))
        self.assertFalse(Edit(OTHER, OTHER, []) == Edit(ONE, OTHER, []))
        for other in (None, 0, edit.pairs(), ONE):
            self.assertFalse(edit == other)

    def test_copies(self):
        pairs = pairs_of((0, 1))
        edit = Edit(ONE, OTHER, pairs)
        pairs.append((at(4), at(4)))
        edit.pairs().clear()
        self.assertEqual(edit.pairs(), pairs_of((0, 1)))


if __name__ == "__main__":
    unittest.main()
