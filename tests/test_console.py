"""Promise [23]: the lines of a console and its answers."""

import unittest

from plainmoment.console import Console
from plainmoment.errors import MomentError, NoLine, TooMany
from plainmoment.hands import place_behind, seen_at
from plainmoment.live import Live
from plainmoment.texts import read_live, write_command, write_live
from tests.samples import Told, chance_of, odd_values, random_setting
from tests.test_hands import command_by_chance
from tests.test_texts import CONDITIONS, LIVE_TEXT, NO_COMMAND_TEXTS, NO_CONDITIONS, SETTING_TEXT

TEXT = SETTING_TEXT + "\nhands 2"
CALLS = """procedure main
copy k 4
call r f k 2
out r
back k
procedure f p q
out p
set p add p q
back p
inputs
hands 1"""


def begun(text=TEXT):
    console = Console()
    for row in text.split("\n"):
        console.run("+" + row)
    console.run("begin")
    return console


class Lines(Told):
    def answers(self, console, told):
        for line, answer in told:
            self.assertEqual(console.run(line), answer, line)

    def test_ordinary(self):
        self.answers(begun(), [
            ("place 0", "0 0"), ("spot 0", "main 0"), ("cell 0 0 x", "0"), ("out 0", "-"), ("line 0", "0 0"), ("with 0", "0 1"),
            ("causes 0 0 x", "-"), ("hand 0 on 3", "ok"), ("place 0", "3 0"), ("spot 0", "main 3"), ("cell 0 0 x", "12"),
            ("causes 0 0 x", "0 1 2"), ("causes 0 0 y", "0 1"), ("with 0", "0"), ("line 0", "1 0"), ("show", "34"),
            ("hand 0 stop 1 2", "ok"), ("place 0", "3 0 2"), ("spot 0", "main 3"), ("hand 0 land 0", "ok"), ("place 0", "4 1"),
            ("spot 0", "main 4"), ("cell 0 0 y", "gone"), ("cell 0 0 z", "gone"), ("cell 0 0 x", "12"), ("cell 0 0 q", "none"),
            ("cell 0 1 x", "none"), ("cell 1 0 z", "none"), ("causes 0 0 z", "3"), ("causes 0 0 q", "error"),
            ("undo 0", "ok"), ("line 0", "2 1"), ("redo 0", "ok"), ("line 0", "3 0"), ("hand 0 next ended", "ok"),
            ("spot 0", "ended"), ("out 0", "12"), ("out 1", "-"), ("cell 0 0 x", "none"), ("causes 0 0 x", "error"),
            ("back", "ok"), ("spot 0", "main 4"), ("again", "ok"), ("again", "error"), ("spot 0", "ended"), ("show", "37"),
            ("hand 1 change 0 x 6", "ok"), ("place 1", "0 1"), ("cell 1 0 x", "6"), ("hand 1 to 5", "ok"), ("out 1", "12"),
            ("with 1", "1")])

    def test_made_moments(self):
        text = TEXT.replace("does set r0 add x 1\ndoes set x mul r0 2\ndoes copy y r0\nlabels 0 1 2 2",
                            "does set x add x 1\ndoes copy y x\ndoes set x mul y 2\nlabels 0 0 1 2")
        self.answers(begun(text), [
            ("hand 0 on 1", "ok"), ("hand 0 stop 1 0", "ok"), ("place 0", "1 0 0"), ("cell 0 0 x", "5"), ("cell 0 0 y", "0"),
            ("hand 0 stop 1 1", "ok"), ("place 0", "1 0 1"), ("cell 0 0 x", "gone"), ("cell 0 0 y", "0"), ("spot 0", "main 1"),
            ("hand 0 stop 1 2", "error"), ("hand 0 on 1", "ok"), ("place 0", "2 0"), ("cell 0 0 x", "5")])

    def test_frames(self):
        self.answers(begun(CALLS), [
            ("hand 0 on 4", "ok"), ("spot 0", "f 2"), ("cell 0 0 k", "4"), ("cell 0 2 p", "6"), ("cell 0 2 k", "none"),
            ("cell 0 3 p", "none"), ("causes 0 2 p", "0 1 3"), ("causes 0 2 q", "0 1"), ("causes 0 0 r", "-"), ("out 0", "4"),
            ("hand 0 on 3", "ok"), ("out 0", "4 6"), ("first depth 2", "2"), ("first beneath main 1", "2"), ("first depth 3", "none"),
            ("first row f 9", "error"), ("first row g 0", "error"), ("first outputs 2", "6"), ("hand 1 home", "error")])

    def test_causes_in_the_run_of_the_road(self):
        console = begun()
        self.answers(console, [("hand 0 on 1", "ok"), ("hand 0 change 0 x 9", "ok"), ("hand 0 on 1", "ok"), ("causes 0 0 y", "0 1"),
                               ("hand 0 home", "ok"), ("hand 0 land 0", "ok"), ("hand 0 on 4", "ok"), ("causes 0 0 z", "3"),
                               ("first row main 4", "4"), ("first row main 5", "error"), ("first not row main 0", "1"), ("first row main 0", "0"),
                               ("first both ended not ended", "none")])

    def test_without_a_session(self):
        cleared = begun()
        self.assertEqual(cleared.run("clear"), "ok")
        for console in (Console(), cleared, begun(TEXT + "\nhands 1")):
            for line in ("hand 0 on 1", "undo 0", "redo 0", "back", "again", "place 0", "spot 0", "cell 0 0 x", "out 0", "line 0",
                         "with 0", "causes 0 0 x", "first ended", "show"):
                self.assertEqual(console.run(line), "error", line)
            self.assertEqual(console.run("nothing"), "unknown")

    def test_begin(self):
        console = Console()
        self.answers(console, [("begin", "error"), ("show", "error"), ("+procedure main", "ok"), ("begin", "error"),
                               ("+back 1", "ok"), ("+inputs", "ok"), ("+hands 1", "ok"), ("begin", "ok"), ("hand 0 on 1", "ok"),
                               ("begin", "ok"), ("line 0", "0 0"), ("hand 0 on 1", "ok"), ("+", "ok"), ("begin", "error"),
                               ("line 0", "1 0"), ("place 0", "1 0"), ("clear", "ok"), ("line 0", "error"), ("begin", "error"),
                               ("+procedure main", "ok"), ("+go 0", "ok"), ("+inputs", "ok"), ("+hands 1", "ok"), ("begin", "error"),
                               ("show", "error")])

    def test_rows_are_kept_behind_a_begin(self):
        console = begun()
        self.answers(console, [("hand 0 on 1", "ok"), ("+hand 1 on 2", "ok"), ("line 1", "0 0"), ("begin", "ok"),
                               ("line 0", "0 0"), ("line 1", "1 0"), ("place 1", "2 0")])

    def test_a_session_that_was_written(self):
        console = begun(LIVE_TEXT)
        self.answers(console, [("line 0", "1 2"), ("line 1", "0 1"), ("show", "40"), ("redo 1", "ok"), ("show", "39"),
                               ("back", "ok"), ("back", "ok"), ("line 1", "1 0")])

    def test_refused(self):
        console = begun()
        self.answers(console, [
            ("hand 0 on 6", "error"), ("hand 2 on 1", "error"), ("hand 9972 on 1", "error"), ("hand 0 back 1", "error"),
            ("hand 0 land 1", "error"), ("hand 0 land 600", "error"), ("hand 0 stop 0 0", "error"), ("hand 0 change 0 q 1", "error"),
            ("hand 0 next row g 1", "error"), ("hand 0 last ended", "error"), ("undo 0", "error"), ("redo 0", "error"),
            ("undo 2", "error"), ("redo 2", "error"), ("back", "error"), ("again", "error"), ("place 2", "error"), ("spot 2", "error"),
            ("cell 2 0 x", "error"), ("out 2", "error"), ("line 2", "error"), ("with 2", "error"), ("causes 2 0 x", "error"),
            ("causes 0 1 x", "error"), ("causes 0 9972 x", "error"), ("cell 0 9972 x", "none"), ("line 0", "0 0"), ("show", "33")])
        loops = begun("procedure main\nget x\nif x 1\nback x\ninputs\nhands 1\nhand 0 on 1")
        self.answers(loops, [("line 0", "1 0"), ("hand 0 change 0 x 1", "error"), ("line 0", "1 0")])

    def test_unknown(self):
        for console in (Console(), begun()):
            for line in ("", " ", "Begin", "begin ", " begin", "begin 1", "clear 0", "hand 0", "hand", "hand 0 undo", "hand 0 redo",
                         "hand x on 1", "hand 9973 on 1", "hand 00 on 1", "hand  0 on 1", "hand 0 on 1 ", "undo", "undo x", "undo 0 0",
                         "redo", "redo -1", "back 0", "again 0", "place", "place 0 0", "place x", "spot", "spot 0 0", "cell 0 0",
                         "cell 0 0 X", "cell 0 x 0", "cell 0 9973 x", "cell 0 0 x x", "out", "out 9973", "line", "line 0 0", "with",
                         "with a", "causes 0 0", "causes 0 0 abcde", "causes 0 0 x 0", "first", "show 0", "shows", "first ended ended",
                         "undo 0\n", "begin\n", "+row\nrow", "\n", "+\n", "clear\n", "-", "hands 1", "procedure main", "-row"):
                self.assertEqual(console.run(line), "unknown", line)
            for text in NO_COMMAND_TEXTS:
                self.assertEqual(console.run("hand 0 " + text), "unknown", text)
            for text in NO_CONDITIONS:
                self.assertEqual(console.run("first " + text), "unknown", text)
                self.assertEqual(console.run("hand 0 next " + text), "unknown", text)
        self.assertEqual(console.run("show"), "33")

    def test_unknown_and_error_keep_no_rows(self):
        console = Console()
        console.run("+procedure main\n+out 1")
        self.answers(console, [("+procedure main", "ok"), ("procedure main", "unknown"), ("begin", "error"), ("+back 1", "ok"),
                               ("+inputs", "ok"), ("+hands 1", "ok"), ("begin", "ok"), ("show", "4")])

    def test_commands_and_conditions_at_their_bounds(self):
        console = begun()
        for line in ("hand 0 on 600", "hand 0 back 600", "hand 0 to 600", "hand 0 change 600 long 9972", "hand 0 stop 600 600",
                     "hand 0 next not not row main 11", "hand 0 last output 600 9972"):
            self.assertEqual(console.run(line), "error", line)
        for line in ("hand 0 on 601", "hand 0 back 0", "hand 0 to 601", "hand 0 change 601 x 1", "hand 0 stop 601 0",
                     "hand 0 next not not not ended", "hand 0 last output 601 1"):
            self.assertEqual(console.run(line), "unknown", line)
        for text in CONDITIONS:
            self.assertNotEqual(console.run("first " + text), "unknown")

    def test_no_lines(self):
        for value in odd_values():
            if not isinstance(value, str):
                self.assertIs(self.told(NoLine, Console().run, value), value)

    def test_consoles_go_on_by_themselves(self):
        one, other = begun(), begun()
        one.run("hand 0 on 1")
        self.assertEqual((one.run("line 0"), other.run("line 0")), ("1 0", "0 0"))


class ByChance(Told):
    def test_as_a_session_does(self):
        chance = chance_of(231)
        for _ in range(20):
            setting = random_setting(chance, 30)
            live = Live(setting, many=chance.randrange(1, 4))
            console = begun(write_live(live))
            for _ in range(25):
                hand = chance.randrange(live.many)
                command = command_by_chance(chance, setting, live.place(hand))
                word = chance.choice(("do", "do", "do", "undo", "redo", "back", "again"))
                line = {"do": f"hand {hand} {write_command(command)}", "undo": f"undo {hand}", "redo": f"redo {hand}"}
                try:
                    getattr(live, word)(*{"do": (hand, command), "undo": (hand,), "redo": (hand,)}.get(word, ()))
                    told = "ok"
                except (MomentError, TooMany):
                    told = "error"
                self.assertEqual(console.run(line.get(word, word)), told)
                self.check(console, live, hand)
            self.assertEqual(console.run("show"), str(write_live(live).count("\n") + 1))
            self.assertTrue(read_live(write_live(live)) == live)

    def check(self, console, live, hand):
        legs, moment, made = live.place(hand)
        place = f"{moment} {len(legs)}" + (f" {made[1]}" if made else "")
        self.assertEqual(console.run(f"place {hand}"), place)
        _, frames, _, outputs, _ = seen_at(live.setting(), (legs, moment, made))
        self.assertEqual(console.run(f"spot {hand}"), f"{frames[-1][1]} {frames[-1][2]}" if frames else "ended")
        self.assertEqual(console.run(f"out {hand}"), " ".join(map(str, outputs)) or "-")
        for born, _, _, pairs in frames:
            for name, value in pairs:
                self.assertEqual(console.run(f"cell {hand} {born} {name}"), "gone" if value is None else str(value))
        self.assertEqual(console.run(f"with {hand}"), " ".join(map(str, live.hands_with(hand))))
        self.assertEqual(console.run(f"line {hand}"), " ".join(str(len(part)) for part in live.line(hand)))
        self.assertEqual(place_behind(live.setting(), live.place(hand), ("home",)), ((), 0, None))


if __name__ == "__main__":
    unittest.main()
