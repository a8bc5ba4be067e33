import copy
import random
import unittest

from making import (
    HALF, NOUGHT, ONE, TWO, bar, call, clock, ended, filled, group, lean, meet, one_part, pace, part, repeat, rest,
    rich_score, score, sign, some_score, tone, turn, use, voiced, wait, whole,
)

from manyclocks.reading import read_score
from manyclocks.scores import checked
from manyclocks.showing import show_score


def lines_of(*things, phrases=()):
    """The lines of the things of one part."""
    told = show_score(one_part(*things, phrases=phrases)).split("\n")
    begin = told.index("part a on time from 0")
    return told[begin + 1:-1]


class Lines(unittest.TestCase):
    def items(self, text, *items):
        """The voice is written so, and read so."""
        things = filled(*items)
        self.assertEqual(lines_of(things)[0].split(" : ")[1], text)
        self.back(one_part(things))

    def back(self, handed):
        """What is shown is read to just that score, truths as truths."""
        checked(handed)
        text = show_score(handed)
        self.assertIsInstance(text, str)
        found = read_score(text)
        self.assertEqual(found, handed)
        self.assertEqual(repr(found), repr(handed))

    def things(self, lines, *things, phrases=()):
        self.assertEqual(lines_of(*things, phrases=phrases), lines)
        self.back(one_part(*things, phrases=phrases))


class Shown(Lines):
    def test_a_whole_score(self):
        clocks = [clock("k", None, NOUGHT), clock("l", "k", (3, 2), (NOUGHT, pace(HALF)), ((7, 3), lean(ONE, TWO, 4)))]
        handed = score(part("a", bar(), on="l", begin=whole(7)), part("b"), clocks=clocks, phrases=[("p", (bar(61),))])
        self.assertEqual(show_score(handed), "\n".join([
            "clock k on time from 0", "clock l on k from 3/2 at 0 @1/2 at 7/3 @1>2*4", "phrase p", "bar 1 : 61:1", "end",
            "part a on l from 7", "bar 1 : 60:1", "end", "part b on time from 0", "end"]))
        self.back(handed)

    def test_tones_and_rests(self):
        self.items("60.64:1/2", tone((60, 64), HALF))
        self.items("-3.0.7:2~", tone((-3, 0, 7), TWO, True))
        self.items("60:5/3^", tone(60, (5, 3), False, True))
        self.items("60:1~^", tone(60, ONE, True, True))
        self.items("-:1", rest())
        self.items("-:7/8 -999999.999999:1", rest((7, 8)), tone((-999999, 999999)))

    def test_marks(self):
        self.items("!x ?g.x =abcdefgh @3/2 @1>3/2*9 @2>1/2*99 -:1", call("x"), wait("g", "x"), meet("abcdefgh"),
                   pace((3, 2)), lean(ONE, (3, 2), 9), lean(TWO, HALF, 99), rest())

    def test_groups(self):
        self.items("(3/2 60:1 -:1 61:1/2 )", group(3, 2, tone(), rest(), tone(61, HALF)))
        # The two numbers stand as they are: with common factors, and with a bottom of 1.
        self.items("(4/2 -:1 ) (99/1 -:1 ) (1/1 !x )", group(4, 2, rest()), group(99, 1, rest()), group(1, 1, call("x")))
        self.items("(6/4 (2/3 -:1 (1/2 60:1~ ) ) )", group(6, 4, group(2, 3, rest(), group(1, 2, tone(60, ONE, True)))))

    def test_bars(self):
        self.things(["bar 3/2 : 60:3/2"], bar(60, (3, 2)))
        self.things(["bar 1 : 60:1 | -:1/2 61:1/2 | -:1 | (2/1 -:2 )"],
                    voiced((tone(),), (rest(HALF), tone(61, HALF)), (rest(),), (group(2, 1, rest(TWO)),)))

    def test_signs_turns_and_uses(self):
        self.things(["sign s", "turn s", "turn -", "turn s - s", "use p 0 1", "use p -12 3/2", "use p 7 1/9"],
                    sign("s"), turn("s"), turn(None), turn("s", None, "s"), use("p"), use("p", -12, (3, 2)),
                    use("p", 7, (1, 9)), phrases={"p": ()})

    def test_repeats_and_endings(self):
        self.things(["repeat 2", "end", "repeat 9", "bar 1 : 60:1", "end"], repeat(2), repeat(9, bar()))
        self.things(["repeat 3", "sign s", "ending 1 3", "bar 1 : 1:1", "turn s", "ending 2", "end", "sign t"],
                    ended(3, (sign("s"),), ((1, 3), (bar(1), turn("s"))), ((2,), ())), sign("t"))
        self.things(["repeat 1", "repeat 2", "ending 1", "repeat 1", "end", "ending 2", "end", "ending 1", "repeat 1",
                     "end", "end"],
                    ended(1, (ended(2, (), ((1,), (repeat(1),)), ((2,), ())),), ((1,), (repeat(1),))))

    def test_names_that_are_words_of_the_lines(self):
        words = ["at", "bar", "clock", "ending", "part", "phrase", "repeat", "sign", "turn", "use"]
        clocks = [clock(word, None if word == "at" else "at", ONE, (ONE, pace(TWO))) for word in words]
        phrases = [(word, (sign(word), turn(word, None))) for word in words]
        parts = [part(word, *[use(word) for word in words], sign(word), turn(word), filled(
            call(word), wait(word, word), meet(word), rest()), on=word) for word in words]
        self.back(score(*parts, clocks=clocks, phrases=phrases))

    def test_numbers_of_one_to_six_figures(self):
        for figures in range(1, 7):
            high, low = int("9" * figures), 10 ** (figures - 1)
            things = filled(tone((-high, -low, low, high + 1), (high, low + 7) if figures > 3 else (high, 1))), use(
                "p", -high, (low, 3)), use("p", low, (1, high))
            self.back(score(part("a", *things, begin=(high, 7 if figures != 6 else 2)),
                            clocks=[clock("k", None, NOUGHT, ((low, 9), pace((high, 2 if high % 2 else 7))))],
                            phrases=[("p", ())]))

    def test_every_kind_of_thing(self):
        self.back(rich_score())

    def test_many_scores(self):
        for seed in range(150):
            self.back(some_score(random.Random(seed)))

    def test_nothing_is_changed(self):
        handed = rich_score()
        before = copy.deepcopy(handed)
        self.assertEqual(show_score(handed), show_score(handed))
        self.assertEqual(handed, before)


if __name__ == "__main__":
    unittest.main()
