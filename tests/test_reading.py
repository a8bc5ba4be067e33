import random
import unittest

from making import (
    HALF, NOUGHT, ONE, TWO, bar, call, clock, ended, group, lean, meet, odd_things, one_part, pace, part,
    plain_things, repeat, rest, rich_score, score, sign, tone, turn, use, voiced, wait, whole,
)

from manyclocks.errors import ClockError, NoScore, NoText
from manyclocks.reading import read_score
from manyclocks.scores import checked
from manyclocks.showing import show_score

FULL = "\n".join([
    "clock k on time from 0", "clock l on k from 3/2 at 0 @1/2 at 7/3 @1>2*4", "phrase p", "bar 1 : 61:1", "end",
    "part a on l from 7", "repeat 2", "use p -1 2/3", "ending 1", "sign s", "ending 2", "turn s -", "end", "end",
    "part b on time from 0", "end"])


def in_part(*lines):
    """A text whose lines from 2 on are these."""
    return "\n".join(["part a on time from 0", *lines, "end"])


class Reading(unittest.TestCase):
    def wrong(self, text, line):
        with self.assertRaises(NoText) as caught:
            read_score(text)
        self.assertEqual(caught.exception.line, line, text)
        self.assertIsInstance(caught.exception, ClockError)
        self.assertNotIsInstance(caught.exception, NoScore)

    def no_score(self, text):
        with self.assertRaises(NoScore, msg=text):
            read_score(text)

    def wrong_things(self, lines):
        """Each of these lines is wrong where a thing may stand."""
        for line in lines:
            self.wrong(in_part("sign s", line, "sign"), 3)

    def wrong_items(self, items):
        for text in items:
            self.wrong_things([f"bar 1 : {text}", f"bar 1 : -:1 | {text} -:1", f"bar 1 : -:1 (3/2 -:1 {text} )"])

    def no_items(self, items):
        """Written rightly, but no such items are there."""
        for text in items:
            self.no_score(in_part(f"bar 1 : {text} -:1"))
            self.no_score(in_part(f"bar 1 : -:1 | -:1 (1/1 {text} )"))


class Read(Reading):
    def test_a_whole_score(self):
        clocks = [clock("k"), clock("l", "k", (3, 2), (NOUGHT, pace(HALF)), ((7, 3), lean(ONE, TWO, 4)))]
        things = ended(2, (use("p", -1, (2, 3)),), ((1,), (sign("s"),)), ((2,), (turn("s", None),)))
        handed = score(part("a", things, on="l", begin=whole(7)), part("b"), clocks=clocks, phrases=[("p", (bar(61),))])
        self.assertEqual(read_score(FULL), handed)
        self.assertIsNone(checked(read_score(FULL)))

    def test_items(self):
        text = in_part("bar 2 : 60.64:1/2~ !x (4/2 -1:1/2^ -:1/2 (1/1 =m ) ) ?g.x 60:1~^ | @2 -:2 @1/2>3*7")
        things = voiced(
            (tone((60, 64), HALF, True), call("x"), group(4, 2, tone(-1, HALF, False, True), rest(HALF), group(
                1, 1, meet("m"))), wait("g", "x"), tone(60, ONE, True, True)),
            (pace(TWO), rest(TWO), lean(HALF, whole(3), 7)))
        self.assertEqual(repr(read_score(text)), repr(one_part(things)))

    def test_parts_alone(self):
        self.assertEqual(read_score("part a on time from 0\nend"), one_part())
        self.assertEqual(read_score(in_part("repeat 1", "end")), one_part(repeat(1)))


class NoTexts(Reading):
    def test_things_that_are_no_text(self):
        for thing in odd_things() + plain_things():
            if not isinstance(thing, str):
                self.wrong(thing, 0)
        self.wrong(FULL.encode(), 0)
        self.wrong([FULL], 0)

    def test_texts_that_say_nothing(self):
        for text in ["", " ", "a", "abc def", "\n", "\n\n"]:
            self.wrong(text, 1)

    def test_empty_lines(self):
        lines = FULL.split("\n")
        for at in range(len(lines) + 1):
            self.wrong("\n".join([*lines[:at], "", *lines[at:]]), at + 1)

    def test_blanks(self):
        lines = FULL.split("\n")
        for at, line in enumerate(lines):
            others = [" " + line, line + " ", line.replace(" ", "  ", 1) + ("" if " " in line else "  ")]
            for other in others:
                self.wrong("\n".join([*lines[:at], other, *lines[at + 1:]]), at + 1)
        self.wrong_things(["bar 1 :  60:1", "bar 1 : 60:1 ", "bar 1 : 60:1  61:1", "bar 1: 60:1", "bar 1 :60:1",
                           "bar 1 : 60:1|60:1", "bar 1 : (3/2 60:1)", "bar 1 : ( 3/2 60:1 )", "bar 1 : (3/2  60:1 )"])

    def test_words_that_lack_or_are_too_many(self):
        for line in FULL.split("\n"):
            words = line.split(" ")
            if words[0] in ("clock", "phrase", "part"):
                for at in range(len(words)):
                    fewer = " ".join(words[:at] + words[at + 1:])
                    self.wrong(f"clock a on time from 0\n{fewer}", 2)
        self.wrong("clock a", 1)
        self.wrong("clock a on time from 0 at", 1)
        self.wrong("clock a on time from 0 at 1", 1)
        self.wrong("clock a on time from 0 at 1 @1 at", 1)
        self.wrong("clock a on time from 0 @1", 1)
        self.wrong("clock a on time from 0 on 1 @1", 1)
        self.wrong("clock a from 0 on time", 1)
        self.wrong("part a on time from 0 at 1 @1\nend", 1)
        self.wrong("phrase p on time from 0\nend", 1)
        self.wrong("phrase p p\nend", 1)
        self.wrong_things(["sign", "sign s s", "sign -", "turn", "turn s -s", "use p", "use p 1", "use p 1 1 1", "use",
                           "repeat", "repeat 1 2", "bar", "bar 1", "bar 1 :", "bar 1 : |", "bar 1 : 60:1 |",
                           "bar 1 : | 60:1", "bar 1 : 60:1 | | 60:1", "bar : 60:1", "bar 1 60:1", "bar 1 | 60:1",
                           "end end", "end a", "end 1"])
        for line in ["ending", "ending 1 a", "ending -", "ending -1", "ending 1/2", "ending 01"]:
            self.wrong(in_part("repeat 2", line, "end"), 3)

    def test_words_of_other_lines(self):
        self.wrong_things(["ending 1", "clock k on time from 0", "phrase p", "part b on time from 0", "at 1 @1", "Bar 1",
                           "bars 1 : 60:1", "60:1", "BAR 1 : 60:1", "rest 1", "repeats 1", "tone"])
        for line in ["sign s", "bar 1 : 60:1", "turn -", "use p 0 1", "repeat 2", "ending 1", "end", "at 0 @1", "on time"]:
            self.wrong(line, 1)
            self.wrong(f"clock a on time from 0\n{line}", 2)
            self.wrong(f"phrase p\nend\n{line}", 3)
            self.wrong(f"part a on time from 0\nend\n{line}", 3)

    def test_names_that_are_none(self):
        for name in ["A", "a1", "abcdefghi", "from", "on", "time", "end", "-", "a.b", "1", "a-b", "", "_"]:
            self.wrong(f"clock {name} on time from 0", 1)
            self.wrong(f"part {name} on time from 0\nend", 1)
            self.wrong(f"phrase {name}\nend", 1)
            if name != "time":
                self.wrong(f"clock a on {name} from 0", 1)
                self.wrong(f"part a on {name} from 0\nend", 1)
            self.wrong_things([f"sign {name}", f"use {name} 0 1"])
            if name != "-":
                self.wrong_things([f"turn {name}", f"turn - {name}"])
            self.wrong_items([f"!{name}", f"={name}", f"?{name}.x", f"?x.{name}"])

    def test_numbers(self):
        for number in ["00", "01", "-0", "-1", "+1", "1.0", "1234567890123", "0000000000001", "1_0", "", "a", "x1", "1e3",
                       "--1", "\u0663"]:
            self.wrong(f"clock a on time from {number}", 1)
            self.wrong(f"clock a on time from 0 at {number} @1", 1)
            self.wrong(f"clock a on time from 0 at 1 @{number}", 1)
            self.wrong(f"clock a on time from 0 at 1 @1>{number}*2", 1)
            self.wrong(f"clock a on time from 0 at 1 @1>1*{number}", 1)
            self.wrong_things([f"repeat {number}", f"use p 0 {number}", f"bar {number} : -:1", f"bar 1/{number} : -:1"])
            self.wrong_items([f"-:{number}", f"60:{number}", f"({number}/2 -:1 )", f"(2/{number} -:1 )", f"@{number}"])
            if number not in ("-1", "1.0"):
                self.wrong_items([f"{number}:1", f"60.{number}:1"])
            if number != "-1":
                self.wrong_things([f"use p {number} 1"])

    def test_numbers_of_twelve_figures(self):
        big = "999999999999"
        self.assertEqual(read_score(f"part a on time from {big}\nend"), score(part("a", begin=(10 ** 12 - 1, 1))))
        self.assertEqual(read_score(f"part a on time from 1/{big}\nend"), score(part("a", begin=(1, 10 ** 12 - 1))))
        text = in_part(f"bar {big} : -{big}.{big}:{big}", "turn -")
        self.assertEqual(read_score(text)[2][0][3][0][2][0][0][1], (1 - 10 ** 12, 10 ** 12 - 1))

    def test_fractions(self):
        for text in ["2/2", "2/4", "0/1", "0/2", "1/1", "3/1", "1/0", "0/0", "1/-2", "-1/2", "/2", "1/", "/", "1/2/3",
                     "1//2", "01/2", "1/02", "1 /2", "1.5", "1/1234567890123"]:
            self.wrong(f"part a on time from {text}\nend", 1)
            self.wrong(f"clock a on time from 0 at {text} @1", 1)
            self.wrong_things([f"bar {text} : -:1", f"use p 0 {text}"])
            self.wrong_items([f"-:{text}", f"60:{text}", f"60:{text}~^", f"@{text}", f"@{text}>1*2", f"@1>{text}*2"])

    def test_items(self):
        self.wrong_items([
            "60", "60:", ":1", ":", "60:1^~", "60:1~~", "60:1^^", "60:~", "60:^", "60~:1", "-:1~", "-:1^", "-:", "-", "--:1",
            "60.:1", ".60:1", "60..61:1", "60,61:1", "60:1:1", "-.60:1", "r:1", "!", "?", "=", "@", "?g", "?g.", "?.x", "?g.x.y",
            "?g x", "!x.y", "!!x", "=x=y", "@1>2", "@1>2*", "@1*2", "@>2*2", "@1>*2", "@1>2*2*2", "@1>2>3*2", "@@1", "x",
            "~", "^", "60:1!x", "60:1/2/3", "()", "(1 -:1 )", "(1/ -:1 )", "(/1 -:1 )", "(1/1", ")", "(1/1 )", "(1/1/1 -:1 )",
            "((1/1 -:1 )", "(-1/1 -:1 )", "(1/1 -:1 ) )", "(1/1 (1/1 -:1 )", "( -:1 )", "(a/b -:1 )", "-:1)", "(1/1 | -:1 )",
        ])
        # A group ends in its own voice.
        self.wrong_things(["bar 1 : (1/1 -:1 | -:1 )", "bar 1 : (1/1 -:1", "bar 1 : -:1 )", "bar 1 : (1/1 (1/1 -:1 )"])

    def test_ends_too_many_and_too_few(self):
        self.wrong("part a on time from 0\nend\nend", 3)
        self.wrong(in_part("repeat 2", "end", "end"), 5)
        self.wrong("part a on time from 0", 1)
        self.wrong("phrase p", 1)
        self.wrong("phrase p\nsign s", 2)
        self.wrong(in_part("repeat 2"), 3)
        self.wrong(in_part("repeat 2", "ending 1", "ending 2"), 5)
        self.wrong(in_part("repeat 2", "repeat 2", "end"), 5)
        lines = FULL.split("\n")
        for many in range(3, len(lines)):
            # A text that ends where a phrase or a part is still begun.
            if lines[many - 1] != "end" or many == 13:
                self.wrong("\n".join(lines[:many]), many)

    def test_endings_outside_of_repeats(self):
        self.wrong(in_part("ending 1"), 2)
        self.wrong(in_part("repeat 1", "end", "ending 1"), 4)
        self.wrong("phrase p\nending 1\nend", 2)

    def test_sorts_out_of_order(self):
        clock_line, phrase, there = "clock k on time from 0", "phrase p\nend", "part a on time from 0\nend"
        self.wrong(f"{phrase}\n{clock_line}\n{there}", 3)
        self.wrong(f"{there}\n{clock_line}", 3)
        self.wrong(f"{there}\n{phrase}", 3)
        self.wrong(f"{clock_line}\n{there}\n{phrase}\n{clock_line}", 4)
        self.wrong(f"phrase p\n{clock_line}\nend\n{there}", 2)
        self.wrong(f"phrase p\nphrase q\nend\nend\n{there}", 2)
        self.wrong(f"part a on time from 0\n{there}\nend", 2)
        self.wrong(in_part("repeat 1", clock_line, "end"), 3)

    def test_the_first_wrong_line_is_told(self):
        self.wrong(in_part("sign s", "bar 01 : 60:1", "bar 2/2 : 60:1", "", "end", "end"), 3)
        self.wrong("clock a on time from 0\nclock A on time from 0\nphrase p\nend\nend", 2)
        # What is no score is looked for only where all is written rightly.
        self.wrong(in_part("bar 1 : -:2", "turn nowhere", "bar"), 4)
        self.wrong("part b on time from 0\nend\npart a on none from 0\nend\nend", 5)


class NoScores(Reading):
    def test_items_that_are_none(self):
        self.no_items(["64.60:1", "60.60:1", "1.2.3.4.5.6.7:1", "60:0", "-:0", "@0", "@0>1*2", "@1>0*2", "@1>1*0",
                       "@1>1*100", "(0/1 !x )", "(1/0 !x )", "(100/1 !x )", "(1/100 !x )"])

    def test_bars_that_are_none(self):
        for text in ["bar 0 : -:1", "bar 1 : -:1/2", "bar 2 : -:1", "bar 1 : -:1 | -:2", "bar 1 : !x",
                     "bar 1 : -:1 | -:1 | -:1 | -:1 | -:1", "bar 1 : -:1" + " !x" * 40]:
            self.no_score(in_part(text))
        self.assertEqual(len(read_score(in_part("bar 1 : -:1" + " !x" * 39))), 3)

    def test_deep_groups_and_repeats(self):
        for deep in [7, 60, 600]:
            self.no_score(in_part("bar 1 : " + "(1/1 " * deep + "-:1" + " )" * deep))
            self.no_score(in_part(*["repeat 1"] * deep, *["end"] * deep))
        text = in_part("bar 1 : " + "(1/1 " * 6 + "-:1" + " )" * 6, *["repeat 1"] * 6, *["end"] * 6)
        self.assertEqual(show_score(read_score(text)), text)

    def test_things_that_are_none(self):
        for lines in [["repeat 0", "end"], ["repeat 10", "end"], ["repeat 2", "ending 1", "end"],
                      ["repeat 2", "ending 2 1", "end"], ["repeat 2", "ending 1 2", "ending 1", "end"],
                      ["repeat 2", "ending 1", "ending 3", "end"], ["repeat 2", "ending 0 1 2", "end"],
                      ["turn s"], ["sign s", "sign s"], ["turn" + " -" * 10], ["use p 0 1"], ["sign s"] * 61]:
            self.no_score(in_part(*lines))
        self.no_score("phrase p\nend\n" + in_part("use p 0 0"))
        self.no_score("phrase p\nuse p 0 1\nend\n" + in_part())

    def test_clocks_that_are_none(self):
        for text in ["clock k on k from 0", "clock k on l from 0", "clock k on time from 0 at 1 @1 at 1 @2",
                     "clock k on time from 0 at 2 @1 at 1 @2", "clock k on time from 0 at 1 @0"]:
            self.no_score(f"{text}\n{in_part()}")
        self.no_score("part a on k from 0\nend")

    def test_names_that_are_not_sorted_or_twice(self):
        self.no_score("part b on time from 0\nend\npart a on time from 0\nend")
        self.no_score("part a on time from 0\nend\npart a on time from 0\nend")
        self.no_score("clock b on time from 0\nclock a on time from 0\n" + in_part())
        self.no_score("clock a on time from 0\nclock a on time from 0\n" + in_part())
        self.no_score("phrase b\nend\nphrase a\nend\n" + in_part())
        self.no_score("phrase b\nend\nphrase b\nend\n" + in_part())

    def test_no_parts(self):
        self.no_score("clock a on time from 0")
        self.no_score("phrase p\nend")


class Whole(Reading):
    def test_spoilt_texts(self):
        """Any sign put in, left out or changed: read to a score that is shown as that very text, or refused."""
        texts = [FULL, show_score(rich_score())]
        chance = random.Random(3)
        read = wrong = no_score = 0
        for _ in range(2000):
            text = chance.choice(texts)
            at = chance.randrange(len(text))
            sign_there = chance.choice(" \n/:.-@>*()!?=~^|019akps")
            text = chance.choice([text[:at] + sign_there + text[at:], text[:at] + text[at + 1:],
                                  text[:at] + sign_there + text[at + 1:]])
            try:
                self.assertEqual(show_score(read_score(text)), text)
                read += 1
            except NoText as found:
                self.assertTrue(1 <= found.line <= text.count("\n") + 1)
                wrong += 1
            except NoScore:
                no_score += 1
        self.assertGreater(min(read, wrong, no_score), 30)


if __name__ == "__main__":
    unittest.main()
