"""Promise [21]: texts of conditions, commands, programs, settings and sessions, and reading them; of [0.2] (j)."""

import unittest

from plainmoment.edits import Edit
from plainmoment.errors import (BadText, MomentError, NoCommand, NoCondition, NoCount, NoEdit, NoInputs, NoMade,
                                NoProgram, NoSetting, NoStore, TooMany)
from plainmoment.live import Live
from plainmoment.programs import Program
from plainmoment.roads import Setting
from plainmoment.texts import (read_command, read_condition, read_live, read_program, read_setting, write_command,
                               write_condition, write_live, write_program, write_setting)
from tests.samples import (CALLER, COUNTDOWN, Told, chance_of, odd_values, plain, random_program, random_setting)
from tests.test_hands import COMMANDS, NO_COMMANDS, SETTING, command_by_chance

ALL_ROWS = Program([
    ("main", (), (("set", "x", "add", "y", 1), ("set", "x", "less", 0, "x"), ("copy", "long", 9972), ("if", "x", 4),
                  ("go", 5), ("call", "y", "set", ()), ("call", "y", "g", ("x",)), ("call", "y", "h", (7, "y")), ("get", "x"),
                  ("out", 10), ("back", 0))),
    ("set", (), (("set", "set", "sub", "set", "mul"), ("back", "set"))),
    ("g", ("p",), (("go", 0),)),
    ("h", ("p", "q"), (("back", "q"),)),
])
ALL_TEXT = """procedure main
set x add y 1
set x less 0 x
copy long 9972
if x 4
go 5
call y set
call y g x
call y h 7 y
get x
out 10
back 0
procedure set
set set sub set mul
back set
procedure g p
go 0
procedure h p q
back q"""

SETTING_TEXT = """procedure main
get x
set y add x 1
set x mul y 2
out x
back x
inputs 5
made main 1
does set r0 add x 1
does set x mul r0 2
does copy y r0
labels 0 1 2 2
edit
procedure main
get x
set y add x 1
set x mul y 2
out x
back x
into
procedure main
get x
set y add x 1
set x mul y 2
copy z 7
out x
back x
map main 0 0
map main 1 1
map main 2 2
map main 3 4
map main 4 5"""
ONE_EDIT = Setting(SETTING.program(), [5], stretches=SETTING.code().listed(), edits=SETTING.edits()[:1])
LIVE_TEXT = SETTING_TEXT + """
hands 2
hand 0 on 3
hand 0 stop 1 2
hand 0 land 0
hand 0 undo
hand 0 undo
hand 1 next not either row main 4 above 0 x 9972
hand 1 undo"""

CONDITIONS = {
    "cell 0 x 9972": ("cell", 0, "x", 9972), "above 600 long 0": ("above", 600, "long", 0),
    "row main 11": ("row", ("main", 11)), "beneath f 0": ("beneath", ("f", 0)), "output 600 9972": ("output", 600, 9972),
    "outputs 0": ("outputs", 0), "depth 600": ("depth", 600), "ended": ("ended",), "not ended": ("not", ("ended",)),
    "both ended row f 1": ("both", ("ended",), ("row", ("f", 1))),
    "either not ended both ended depth 3": ("either", ("not", ("ended",)), ("both", ("ended",), ("depth", 3))),
    "both cell 0 both 1 cell 0 not 2": ("both", ("cell", 0, "both", 1), ("cell", 0, "not", 2)),
    "not not ended": ("not", ("not", ("ended",))),
}
NO_CONDITIONS = ["", "end", "ended ", " ended", "ended ended", "cell 0 x", "cell 0 x 9973", "cell 601 x 1", "cell 00 x 1",
                 "cell 0 X 1", "cell 0 x 1 1", "cell  0 x 1", "cell 0 abcde 1", "row main", "row main 12", "row main 01",
                 "row main -1", "beneath 0 0", "output 601 0", "output 0 9973", "output 0", "outputs 601", "outputs", "depth x",
                 "not", "not not not ended", "both ended", "both ended ended ended", "either ended", "not both not ended ended",
                 "Ended", "cell +1 x 1", "cell 1_0 x 1", "cell 0 x 1\n", "ended\nended", "\n", "cell 0 x 1.0", "on 1",
                 "not " * 3000 + "ended"]

COMMAND_TEXTS = {
    "on 1": ("on", 1), "back 600": ("back", 600), "to 0": ("to", 0), "to 600": ("to", 600),
    "next not ended": ("next", ("not", ("ended",))), "last either not ended both ended ended":
    ("last", ("either", ("not", ("ended",)), ("both", ("ended",), ("ended",)))), "change 0 x 9972": ("change", 0, "x", 9972),
    "land 0": ("land", 0), "land 600": ("land", 600), "stop 600 12": ("stop", 600, 12), "home": ("home",), "undo": ("undo",),
}
NO_COMMAND_TEXTS = ["", "on 0", "on 601", "on", "on 1 1", "back 0", "back 01", "to 601", "to -1", "next", "next end",
                    "next not not not ended", "last ended ended", "change 601 x 1", "change 0 x 9973", "change 0 x", "change x 0 1",
                    "land", "land 601", "stop 0", "stop 601 0", "stop 0 601", "stop 0 none", "home 0", "undo 0", "redo", "Home",
                    "home ", " home", "on  1", "home\n", "home\nhome", "hand 0 home", "ended"]


class Small(Told):
    def test_conditions(self):
        for text, condition in CONDITIONS.items():
            self.assertEqual(write_condition(condition), text)
            self.assertEqual(read_condition(text), condition)

    def test_no_conditions(self):
        for text in NO_CONDITIONS:
            self.assertEqual(self.told(BadText, read_condition, text), 1, text)
        wrong = [("end",), ("not", ("not", ("not", ("ended",)))), ("row", ("main", 12)), ("cell", 601, "x", 1), ["ended"]]
        self.refuses_all(NoCondition, odd_values() + wrong, write_condition)

    def test_commands(self):
        for text, command in COMMAND_TEXTS.items():
            self.assertEqual(write_command(command), text)
            self.assertEqual(read_command(text), command)
        for command in COMMANDS:
            self.assertEqual(read_command(write_command(command)), command)

    def test_no_commands(self):
        for text in NO_COMMAND_TEXTS:
            self.assertEqual(self.told(BadText, read_command, text), 1, text)
        by_form = (("land", 3), ("undo",), ("last", ("row", ("main", 6))), ("next", ("row", ("f", 0))))
        wrong = [command for command in NO_COMMANDS if not any(command is one or repr(command) == repr(one) for one in by_form)]
        self.refuses_all(NoCommand, odd_values() + wrong + [("undo", 0), ["undo"], "undo"], write_command)

    def test_no_texts(self):
        for value in odd_values():
            if not isinstance(value, str):
                for function in (read_condition, read_command, read_program, read_setting, read_live):
                    self.assertEqual(self.told(BadText, function, value), 0)


class Programs(Told):
    def test_all_rows(self):
        self.assertEqual(write_program(ALL_ROWS), ALL_TEXT)
        self.assertEqual(read_program(ALL_TEXT), ALL_ROWS)

    def test_by_chance(self):
        chance = chance_of(211)
        for program in [COUNTDOWN, CALLER, *(random_program(chance) for _ in range(100))]:
            text = write_program(program)
            self.assertEqual(read_program(text), program)
            self.assertEqual(write_program(read_program(text)), text)

    def wrong(self, text, function=read_program):
        return self.told(BadText, function, text)

    def test_rows_without_form(self):
        for row in ("set x add y", "set x add y 1 2", "set x and y 1", "set 1 add y 1", "set X add y 1", "set x add y 9973",
                    "set x add y 01", "set x add  1", "copy x", "copy x 1 2", "copy 1 x", "if x", "if x 12", "if x 04", "if 9973 0",
                    "go", "go 12", "go x", "go 1 1", "call x", "call x 1", "call 1 f", "call x f 1 2 3", "call x f 9973", "call x f 1 ",
                    "back", "back 1 2", "back abcde", "get", "get 1", "get x y", "out", "out -1", "out 1 1", "", " ", "out 1 ", " out 1",
                    "out\t1", "Out 1", "outs 1", "procedure", "procedure 1", "procedure f 1", "procedure f ", "procedure abcde",
                    "does", "made main", "labels x", "inputs 9973", "edit 1", "into 1", "map main 0", "hands", "hands x", "hand 0",
                    "hand 0 on 0", "hand x on 1", "set x sub r0 1", "copy r0 1", "get r0"):
            self.assertEqual(self.wrong(f"procedure main\nout 1\n{row}\nback 1"), 3, row)

    def test_rows_that_may_not_stand(self):
        for row in ("inputs", "inputs 5", "made main 0", "does copy x 1", "labels 0", "edit", "into", "map main 0 0", "hands 1",
                    "hand 0 home", "hand 0 undo"):
            self.assertEqual(self.wrong(f"procedure main\nback 1\n{row}"), 3, row)
            self.assertEqual(self.wrong(row), 1, row)
            self.assertEqual(self.wrong(f"procedure main\n{row}\nback 1"), 2, row)
        self.assertEqual(self.wrong("back 1"), 1)
        self.assertEqual(self.wrong("procedure main\nprocedure f\nback 1"), 2)

    def test_texts_that_end_too_early(self):
        self.assertEqual(self.wrong("procedure main"), 2)
        self.assertEqual(self.wrong("procedure main\nback 1\nprocedure f x"), 4)
        self.assertEqual(self.wrong(""), 1)
        self.assertEqual(self.wrong("procedure main\n"), 2)
        self.assertEqual(self.wrong("procedure main\nback 1\n"), 3)

    def test_of_two_wrong_parts_the_one_ahead(self):
        self.assertEqual(self.wrong("procedure main\nout\nhands 1"), 2)
        self.assertEqual(self.wrong("procedure main\nhands 1\nout"), 2)
        # The form of all rows comes ahead of what they make.
        self.assertEqual(self.wrong("procedure main x\nback 1\nout"), 3)

    def test_what_program_raises(self):
        self.assertEqual(self.told(NoProgram, read_program, "procedure main x\nback 1"), 0)
        self.assertEqual(self.told(NoProgram, read_program, "procedure main\nback 1\nprocedure f x x\nback 1"), 1)
        self.assertEqual(self.told(NoProgram, read_program, "procedure main\nback 1\nprocedure f x y z\nback 1"), 1)
        self.assertEqual(self.told(NoProgram, read_program, "procedure main\nback 1\nprocedure main\nback 1"), 1)
        self.assertEqual(self.told(NoProgram, read_program, "procedure main\ngo 1"), 0)
        self.assertEqual(self.told(NoProgram, read_program, "procedure main\nout 1"), 0)
        self.assertEqual(self.told(NoProgram, read_program, "procedure main\n" + 12 * "out 1\n" + "back 1"), 0)
        five = "\n".join(f"procedure {name}\nback 1" for name in "abcde")
        self.assertIsNone(self.told(NoProgram, read_program, five))

    def test_no_program(self):
        self.refuses_all(NoProgram, odd_values(), write_program)


class Settings(Told):
    def test_ordinary(self):
        self.assertEqual(write_setting(ONE_EDIT), SETTING_TEXT)
        self.assertTrue(read_setting(SETTING_TEXT) == ONE_EDIT)
        self.assertEqual(write_setting(Setting(plain((("back", 1),)))), "procedure main\nback 1\ninputs")
        self.assertTrue(read_setting("procedure main\nback 1\ninputs 0 9972") == Setting(plain((("back", 1),)), [0, 9972]))

    def test_made_rows_of_none_and_edits_without_maps(self):
        program = plain((("copy", "x", "x"), ("back", "x")))
        setting = Setting(program, stretches=[(("main", 0, 0), (), (1,))], edits=2 * [Edit(program, COUNTDOWN, [])])
        text = write_setting(setting)
        self.assertIn("made main 0\nlabels 1\nedit\n", text)
        self.assertTrue(read_setting(text) == setting)

    def test_by_chance(self):
        chance = chance_of(212)
        for _ in range(40):
            setting = random_setting(chance)
            text = write_setting(setting)
            self.assertTrue(read_setting(text) == setting)
            self.assertEqual(write_setting(read_setting(text)), text)
            rows = text.split("\n")
            self.assertTrue(all(row.split() == row.split(" ") for row in rows))
            for at in chance.sample(range(len(rows)), 3):
                self.assertEqual(self.told(BadText, read_setting, "\n".join([*rows[:at], "no row", *rows[at:]])), at + 1)
                end = "\n".join(rows[:at]) if at else ""
                try:
                    self.assertTrue(read_setting(end).program() == setting.program())
                except BadText as error:
                    self.assertEqual(error.told, max(at, 0) + 1 if at else 1)
                except MomentError:
                    pass

    def test_rows_that_may_not_stand(self):
        # Behind each row of the text, which kinds of rows may stand there.
        kinds = {"procedure f": "P", "out 1": "R", "inputs": "I", "made main 1": "M", "does copy x 1": "D", "labels 0 1": "L",
                 "edit": "E", "into": "T", "map main 0 0": "A"}
        follows = ["P", *["R"], *5 * ["RPI"], "ME", *4 * ["DL"], "ME", "P", *["R"], *5 * ["RPT"], "P", *["R"],
                   *6 * ["RPAE"], *4 * ["AE"]]
        for at, may in enumerate(follows):
            for row, kind in kinds.items():
                text = "\n".join([*SETTING_TEXT.split("\n")[:at], row])
                try:
                    read_setting(text)
                    told = None
                except BadText as error:
                    told = error.told
                except MomentError:
                    told = None
                self.assertEqual(told == at + 1, kind not in may, (at, row))

    def test_sessions_are_no_settings(self):
        self.assertEqual(self.told(BadText, read_setting, SETTING_TEXT + "\nhands 1"), 33)
        self.assertEqual(self.told(BadText, read_live, SETTING_TEXT), 33)

    def test_texts_that_end_too_early(self):
        rows = SETTING_TEXT.split("\n")
        for many in (1, 2, 6, 8, 9, 11, 13, 14, 15, 19, 20, 21):
            self.assertEqual(self.told(BadText, read_setting, "\n".join(rows[:many])), many + 1)
        for many in (7, 12):
            read_setting("\n".join(rows[:many]))
        self.assertEqual(self.told(BadText, read_setting, ""), 1)
        self.assertEqual(self.told(BadText, read_live, ""), 1)

    def test_figures(self):
        for row, number in (("inputs 05", 7), ("inputs 9973", 7), ("inputs  5", 7), ("inputs 5 ", 7), ("inputs x", 7)):
            self.assertEqual(self.told(BadText, read_setting, SETTING_TEXT.replace("inputs 5", row)), number)
        self.assertEqual(self.told(BadText, read_setting, SETTING_TEXT.replace("made main 1", "made main 12")), 8)
        self.assertEqual(self.told(BadText, read_setting, SETTING_TEXT.replace("labels 0 1 2 2", "labels 0 1 2 2x")), 12)
        self.assertEqual(self.told(BadText, read_setting, SETTING_TEXT.replace("does copy y r0", "does copy y r4")), 11)
        self.assertEqual(self.told(BadText, read_setting, SETTING_TEXT.replace("does copy y r0", "does get y")), 11)
        self.assertEqual(self.told(BadText, read_setting, SETTING_TEXT.replace("does copy y r0", "does copy 1 y")), 11)
        self.assertEqual(self.told(BadText, read_setting, SETTING_TEXT.replace("map main 3 4", "map main 3 12")), 31)

    def test_what_is_raised_part_by_part(self):
        good = SETTING_TEXT
        no_program = good.replace("\nback x\ninputs", "\nif x 0\ninputs")
        no_stretch = good.replace("made main 1", "made main 2")
        no_old = good.replace("back x\ninto", "if x 0\ninto")
        no_new = good.replace("back x\nmap main 0 0", "if x 0\nmap main 0 0")
        no_map = good.replace("map main 3 4", "map main 5 4")
        no_made = good.replace("labels 0 1 2 2", "labels 0 1 2 1")
        no_inputs = good.replace("inputs 5", "inputs" + 13 * " 5")
        self.assertEqual(self.told(NoProgram, read_setting, no_program), 0)
        self.assertEqual(self.told(NoProgram, read_setting, no_old), 0)
        self.assertEqual(self.told(NoProgram, read_setting, no_new), 0)
        self.assertEqual(self.told(BadText, read_setting, no_stretch), 8)
        self.assertEqual(self.told(BadText, read_setting, good.replace("made main 1", "made f 1")), 8)
        self.assertEqual(self.told(NoEdit, read_setting, no_map), 3)
        self.assertEqual(self.told(NoEdit, read_setting, good.replace("map main 3 4", "map main 2 4")), 3)
        self.assertEqual(self.told(NoEdit, read_setting, good.replace("into\nprocedure main", "into\nprocedure oth")), "names")
        self.assertEqual(self.told(NoMade, read_setting, no_made), 0)
        self.assertEqual(self.told(NoMade, read_setting, good.replace("labels 0 1 2 2", "labels")), 0)
        self.assertEqual(list(self.told(NoInputs, read_setting, no_inputs)), 13 * [5])
        # The parts come in the order of the text; what Setting raises comes behind all edits.
        for ahead, behind, error in ((no_program, ("made main 1", "made main 2"), NoProgram),
                                     (no_stretch, ("map main 3 4", "map main 5 4"), BadText),
                                     (no_old, ("inputs 5", "inputs" + 13 * " 5"), NoProgram),
                                     (no_map, ("labels 0 1 2 2", "labels 0 1 2 1"), NoEdit),
                                     (no_inputs, ("labels 0 1 2 2", "labels 0 1 2 1"), NoInputs)):
            self.told(error, read_setting, ahead)
            self.told(error, read_setting, ahead.replace(*behind))

    def test_a_stretch_twice(self):
        made = "\n".join(SETTING_TEXT.split("\n")[7:12])
        self.assertEqual(self.told(NoMade, read_setting, SETTING_TEXT.replace(made, f"{made}\n{made}")), 1)

    def test_more_than_four_edits(self):
        edit = "\nedit\nprocedure f\nback 1\ninto\nprocedure f\nback 1"
        head = "procedure main\nback 1\ninputs"
        self.assertEqual(len(read_setting(head + 4 * edit).edits()), 4)
        self.assertIsNone(self.told(NoEdit, read_setting, head + 5 * edit))

    def test_runs_that_are_too_long(self):
        self.assertEqual(self.most(read_setting, "procedure main\ngo 0\ninputs"), 600)
        self.assertEqual(self.most(read_live, "procedure main\ngo 0\ninputs\nhands 9"), 600)

    def test_no_setting(self):
        self.refuses_all(NoSetting, odd_values(), write_setting)


class Sessions(Told):
    def begun(self):
        live = Live(ONE_EDIT, many=2)
        for command in (("on", 3), ("stop", 1, 2), ("land", 0)):
            live.do(0, command)
        live.undo(0)
        live.undo(0)
        live.do(1, ("next", ("not", ("either", ("row", ("main", 4)), ("above", 0, "x", 9972)))))
        live.undo(1)
        return live

    def test_ordinary(self):
        live = self.begun()
        self.assertEqual(write_live(live), LIVE_TEXT)
        read = read_live(LIVE_TEXT)
        self.assertTrue(read == live)
        self.assertEqual((read.many, read.line(0), read.line(1)), (2, live.line(0), live.line(1)))

    def test_each_is_a_deed(self):
        read = read_live(LIVE_TEXT)
        self.assertEqual(len(read), 7)
        read.back()
        self.assertEqual(len(read.line(1)[0]), 1)

    def test_hand_rows_in_any_order(self):
        read = read_live(SETTING_TEXT + "\nhands 3\nhand 2 on 1\nhand 0 on 2\nhand 2 on 1\nhand 0 undo\nhand 0 home")
        self.assertEqual([read.line(hand) for hand in range(3)], [((("home",),), ()), ((), ()), ((("on", 1), ("on", 1)), ())])
        self.assertTrue(read_live(SETTING_TEXT + "\nhands 1") == Live(ONE_EDIT))

    def test_hand_rows_that_are_refused(self):
        head = SETTING_TEXT + "\nhands 2\nhand 0 on 1\n"
        for row in ("hand 0 on 9", "hand 0 undo\nhand 0 undo", "hand 2 on 1", "hand 0 land 1", "hand 0 land 600", "hand 0 stop 0 0",
                    "hand 1 change 0 q 1", "hand 9972 home", "hand 0 next row main 11", "hand 1 back 1", "hand 0 next row f 0"):
            self.assertEqual(self.told(BadText, read_live, head + row), 35 + row.count("\n"))
            self.assertEqual(self.told(BadText, read_live, head + row + "\nhand 0 on 600"), 35 + row.count("\n"))
        loops = "procedure main\nget x\nif x 1\nback x\ninputs\nhands 1\nhand 0 on 1\nhand 0 change 0 x 1"
        self.assertEqual(self.told(BadText, read_live, loops), 8)

    def test_rows_that_may_not_stand(self):
        for row in ("hands 2", "inputs", "procedure f", "made main 1", "edit", "out 1", "map main 0 0", "labels 0"):
            self.assertEqual(self.told(BadText, read_live, SETTING_TEXT + "\nhands 2\n" + row), 34)
            self.assertEqual(self.told(BadText, read_live, LIVE_TEXT + "\n" + row), 41)
        self.assertEqual(self.told(BadText, read_live, "procedure main\nback 1\nhands 1"), 3)
        self.assertEqual(self.told(BadText, read_live, "procedure main\nback 1\ninputs\nhand 0 home"), 4)
        self.assertEqual(self.told(BadText, read_live, LIVE_TEXT + "\nhand 0 redo"), 41)
        # A wrong row comes ahead of all that is read, and of all that is refused.
        self.assertEqual(self.told(BadText, read_live, LIVE_TEXT.replace("hand 0 on 3", "hand 0 on 600") + "\n"), 41)

    def test_numbers_of_hands(self):
        for number in (0, 5, 9972):
            self.assertEqual(self.told(NoCount, read_live, f"{SETTING_TEXT}\nhands {number}\nhand 0 on 600"), number)
        for row in ("hands", "hands 9973", "hands 01", "hands 1 1", "hands x"):
            self.assertEqual(self.told(BadText, read_live, f"{SETTING_TEXT}\n{row}"), 33)

    def test_by_chance(self):
        chance = chance_of(213)
        undone = 0
        for _ in range(25):
            setting = random_setting(chance, 30)
            live = Live(setting, many=chance.randrange(1, 5))
            for _ in range(25):
                hand = chance.randrange(live.many)
                try:
                    if chance.random() < 0.3:
                        live.undo(hand)
                    else:
                        live.do(hand, command_by_chance(chance, setting, live.place(hand)))
                except (MomentError, TooMany):
                    continue
            text = write_live(live)
            read = read_live(text)
            self.assertTrue(read == live)
            self.assertEqual(write_live(read), text)
            self.assertEqual([read.place(hand) for hand in range(read.many)], [live.place(hand) for hand in range(live.many)])
            undone += any(live.line(hand)[1] for hand in range(live.many))
        self.assertGreater(undone, 5)

    def test_no_session(self):
        self.refuses_all(NoStore, [*odd_values(), ONE_EDIT], write_live)


if __name__ == "__main__":
    unittest.main()
