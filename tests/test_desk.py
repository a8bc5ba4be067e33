import random
import unittest

from making import (
    ONE, Hall, bar, fraction, odd_things, pair, plain_parting, plain_sounds, plain_things, some_changes, some_heard,
    some_score, walked_marks, whole,
)

from manyclocks.changes import played
from manyclocks.desk import Desk
from manyclocks.drawing import drawn
from manyclocks.errors import ClockError, NoDeed, NoLine, NoScore, NoText, NoTime, TooLong
from manyclocks.hearing import heard
from manyclocks.lines import line
from manyclocks.meetings import parting
from manyclocks.places import where
from manyclocks.players import Player
from manyclocks.reading import read_score
from manyclocks.rows import row
from manyclocks.showing import show_score
from manyclocks.standing import why
from manyclocks.walks import walk
from manyclocks.written import nexts, written

TEXT = """clock k on time from 0
phrase p
bar 1 : 70:1/2 71:1/2
end
part a on k from 0
bar 2 : 60.64:1 !x 62:1 =m
repeat 2
bar 1 : -:1 | 60:1
end
end
part b on time from 1/2
bar 1 : ?a.x 50:1/2 =m -:1/2 ?z.q
use p 0 1
end
part c on time from 0
end"""
# The desk's lines that change nothing.
ASKED = ["now", "meets", "stands", "where a 1/2", "where b 5/2", "row a 0", "row a 1", "row b 0", "row c 0", "walk b",
         "draw b", "hear b 70:1/2"]


def state(desk):
    """All that a desk answers to lines that change nothing."""
    return [desk.say(text) for text in ASKED]


def item_text(thing):
    pitches, length = thing
    shown = str(length[0]) if length[1] == 1 else f"{length[0]}/{length[1]}"
    return (".".join(str(pitch) for pitch in pitches) or "-") + ":" + shown


class Answers(unittest.TestCase):
    def says(self, desk, *rows):
        for text, told in rows:
            found = desk.say(text)
            self.assertIsInstance(found, str)
            self.assertEqual(found, told, text)


class Lines(Answers):
    def test_go_and_now(self):
        self.says(
            Desk(TEXT), ("now", "0"), ("go 0", "-"), ("go 1", "0 on a 0 60.64"), ("now", "1"), ("go 1", "-"),
            ("go 3/2", "1 off a 0 60.64; 1 on a 0 62; 1 on b 0 50"), ("now", "3/2"),
            ("go 99", "3/2 off b 0 50; 2 off a 0 62; 2 on a 1 60; 3 off a 1 60; 3 on a 1 60; 4 off a 1 60"),
            ("now", "99"), ("go 100", "-"))

    def test_changes(self):
        self.says(
            Desk(TEXT), ("go 1", "0 on a 0 60.64"), ("give z q", "ok"), ("pace b 3", "ok"), ("clock k 2", "ok"),
            ("pace a 1/2", "ok"), ("go 5/2", "1 off a 0 60.64; 1 on a 0 62; 1 on b 0 50; 2 off a 0 62; 2 on a 1 60"),
            ("now", "5/2"))

    def test_where(self):
        self.says(
            Desk(TEXT), ("where a 0", "0 0"), ("where a 1/2", "0 1/2"), ("where a 2", "1 0"), ("where a 7/2", "2 1/2"),
            ("where a 4", "-"), ("where b 0", "-"), ("where b 3/4", "0 0"), ("where b 3/2", "0 1/2"),
            ("where b 999999", "1 0"), ("where c 0", "-"), ("where c 1", "-"))

    def test_meets(self):
        self.says(Desk(TEXT), ("meets", "m 1 b 0 3/2 a 0 2"), ("clock k 1/4", "ok"), ("meets", "m 1 a 0 1/2 b 0 1"),
                  ("clock k 1/2", "ok"), ("meets", "all"))
        self.says(Desk("part a on time from 0\nbar 1 : =m -:1\nend\npart b on time from 0\nbar 1 : ?z.x =m -:1\nend"),
                  ("meets", "m 1 a 0 0 b 0 -"), ("give z x", "ok"), ("meets", "all"))
        self.says(Desk("part a on time from 0\nbar 1 : =m -:1\nend"), ("meets", "all"))

    def test_stands(self):
        self.says(Desk(TEXT), ("stands", "b lacks b"), ("give z q", "ok"), ("stands", "-"))
        ring = "\n".join(["part b on time from 0", "bar 1 : ?c.x !y -:1", "end", "part c on time from 0",
                          "bar 1 : ?b.y !x -:1", "end", "part d on time from 0", "bar 1 : ?b.y -:1 ?z.x", "end"])
        self.says(Desk(ring), ("stands", "b ring b c; c ring c b; d ring d b c"))
        self.says(Desk("part a on time from 0\nbar 1 : ?a.x !x -:1\nend\npart b on time from 0\nbar 1 : ?a.y -:1\nend"),
                  ("stands", "a ring a; b lacks b"))

    def test_row(self):
        self.says(
            Desk(TEXT), ("row a 0", "0 1 60.64; 1 2 62; 2 4 -"), ("row a 1", "0 2 -; 2 3 60; 3 4 60"),
            ("row a 3", "0 4 -"), ("row b 0", "0 1 -; 1 3/2 50; 3/2 - -"), ("row c 0", "-"), ("row c 3", "-"),
            ("give z q", "ok"), ("row b 0", "0 1 -; 1 3/2 50; 3/2 2 -; 2 5/2 70; 5/2 3 71"))
        self.says(Desk("part a on time from 0\nbar 1 : -5.5:1^ ?z.x\nend"), ("row a 0", "0 - -5.5"))

    def test_walk(self):
        self.says(Desk(TEXT), ("walk a", "0 1.0 1.0"), ("walk b", "0 1.0"), ("walk c", "-"))

    def test_draw(self):
        text_b = "\n".join(TEXT.split("\n")[1:4] + TEXT.split("\n")[10:14])
        text_c = "part c on time from 0\nend"
        self.says(Desk(TEXT), ("draw b", text_b), ("draw c", text_c), ("draw c b", f"{text_b}\n{text_c}"),
                  ("draw b b c b", f"{text_b}\n{text_c}"), ("draw a b c", TEXT), ("draw c b a", TEXT))

    def test_hear(self):
        self.says(
            Desk(TEXT), ("hear a 60.64:1 62:1 -:1 -:1 -:1", "0 0 1.0"), ("hear b 50:1/2 -:1/2 70:1/2 71:1/2", "0 0 1.0"),
            ("hear b 50:1/2 -:1/2 70:1/2 99:1/2", "1 0 1.0"), ("hear c -:1", "2"), ("hear c 1:1 2.3:1/2", "4"))

    def test_hear_tells_a_bar_again_where_another_was_between(self):
        text = "part a on time from 0\nrepeat 2\nbar 1 : 1:1\nbar 1 : 2:1\nend\nbar 2 : 3:1 4:1\nend"
        self.says(Desk(text), ("hear a 1:1 2:1 1:1 2:1 3:1 4:1", "0 0.0 0.1 0.0 0.1 1"), ("hear a 3:1 4:1", "0 1"),
                  ("hear a 1:1 2:1 8:1/2 1:1 2:1", "2 0.0 0.1 0.0 0.1"))

    def test_of_the_score_alone(self):
        desk = Desk(TEXT)
        asked = ["walk a", "walk b", "walk c", "draw a", "draw b c", "hear a 60.64:1 62:1", "hear b 70:1"]
        before = [desk.say(text) for text in asked]
        for text in ["go 1/2", "pace a 3", "clock k 2", "give z q", "pace b 5", "go 7"]:
            desk.say(text)
        self.assertEqual([desk.say(text) for text in asked], before)

    def test_changes_and_what_is_asked_then(self):
        self.says(
            Desk(TEXT), ("go 1", "0 on a 0 60.64"), ("clock k 3", "ok"), ("where a 5/2", "0 3/2"),
            ("meets", "m 1 b 0 3/2 a 0 4"), ("row a 0", "0 1 60.64; 1 4 62; 4 10 -"), ("pace a 1/3", "ok"),
            ("row a 0", "0 1 60.64; 1 2 62; 2 4 -"), ("meets", "m 1 b 0 3/2 a 0 2"), ("pace b 2", "ok"),
            ("meets", "all"), ("give z q", "ok"), ("stands", "-"), ("row b 0", "0 1 -; 1 2 50; 2 3 -; 3 4 70; 4 5 71"))

    def test_two_desks_side_by_side(self):
        one, other = Desk(TEXT), Desk(TEXT)
        before = state(other)
        for text in ["go 1", "clock k 3", "pace a 1/3", "give z q"]:
            one.say(text)
        self.assertEqual(state(other), before)
        self.says(other, ("go 1", "0 on a 0 60.64"))


class Refusals(Answers):
    def setUp(self):
        self.desk, self.other = Desk(TEXT), Desk(TEXT)
        for desk in [self.desk, self.other]:
            desk.say("go 1/2")
            desk.say("pace b 1/3")

    def refused(self, kind, things):
        before = state(self.other)
        for thing in things:
            with self.assertRaises(kind) as caught:
                self.desk.say(thing)
            self.assertIsInstance(caught.exception, ClockError)
        self.assertEqual(state(self.desk), before)
        for text in ["go 1", "give z q", "clock k 2", "go 9"]:
            self.assertEqual(self.desk.say(text), self.other.say(text))

    def test_things_that_are_no_text(self):
        self.refused(NoLine, odd_things() + plain_things() + [b"now", ["now"], ("now",)])

    def test_lines_of_nothing_and_of_other_words(self):
        self.refused(NoLine, ["", " ", "help", "Now", "NOW", "stop", "to 1", "events", "g", "go1", "nows", "\n", "now\n",
                              "now\nnow", "heard a 60:1", "play a 60:1", "part a on time from 0", "draw", "walk", "where", "row", "hear", "go", "give",
                              "pace", "clock", "end"])

    def test_blanks_and_words_too_many_or_too_few(self):
        lines = ["go 2", "give z q", "pace a 2", "clock k 2", "now", "where a 1", "meets", "stands", "row a 0", "walk a",
                 "draw a", "draw a b", "hear a 60:1", "hear a 60:1 -:1"]
        wrong = []
        for text in lines:
            words = text.split(" ")
            wrong += [text + " ", " " + text, text.replace(" ", "  ", 1) if " " in text else text + "  ", text + "\n"]
            if words[0] not in ("draw", "hear"):
                wrong += [text + " a", text + " 1"]
                if len(words) > 1:
                    wrong += [" ".join(words[:-1]), words[0]]
        self.refused(NoLine, [*wrong, "draw", "draw a  b", "draw a ", "hear", "hear a", "hear a ", "hear 60:1"])

    def test_parts_that_are_not_there(self):
        lines = ["where {} 1", "row {} 0", "walk {}", "draw {}", "draw a {}", "draw {} a", "hear {} 60:1"]
        self.refused(NoLine, [text.format(name) for text in lines for name in ["d", "k", "p", "z", "A", "on", "time", "1", "-"]])

    def test_what_is_no_name_or_no_fraction(self):
        names = ["A", "a1", "from", "on", "time", "end", "abcdefghi", "-", "1"]
        fractions = ["2/2", "2/4", "1/1", "0/2", "01", "-1", "-0", "1.5", "a", "1/0", "1234567890123", "1/", "+1", "@1"]
        self.refused(NoLine, [
            *[f"give {name} x" for name in names], *[f"give z {name}" for name in names],
            *[f"{word} {name} 2" for name in names for word in ["pace", "clock"]],
            *[f"{word} {text}" for text in fractions for word in ["go", "pace a", "clock k", "where a"]],
            # What is wrongly written is refused so, whoever isn't there.
            "pace nobody 2/2", "clock nobody 01", "give a 1", "give a on"])

    def test_voices(self):
        self.refused(NoLine, [f"row a {voice}" for voice in ["4", "5", "10", "-1", "00", "01", "a", "1/2", "-", "999999"]])

    def test_heard_things_that_are_none(self):
        things = ["60:1~", "60:1^", "60:1~^", "!x", "?a.x", "=x", "@1", "@1>2*3", "(3/2 60:1 )", "(1/1", ")", "60:0", "-:0",
                  "64.60:1", "60.60:1", "1.2.3.4.5.6.7:1", "60", "-", "60:2/2", "-:1~", "x:1", "|", ":1", "060:1", "-0:1"]
        self.refused(NoLine, [text for thing in things for text in [f"hear a {thing}", f"hear a 60:1 {thing}"]])

    def test_deeds(self):
        self.refused(NoDeed, ["give a x", "give b x", "pace k 2", "pace nobody 2", "clock a 2", "clock nobody 2", "pace a 0",
                              "clock k 0"])

    def test_times_ahead(self):
        self.refused(NoTime, ["go 0", "go 1/3", "go 499999/999999"])

    def test_a_name_of_another_sort_may_give(self):
        self.says(self.desk, ("give k x", "ok"), ("give p x", "ok"))

    def test_names_that_are_words_of_the_desk(self):
        self.says(self.desk, ("give z now", "ok"), ("give now give", "ok"), ("give go clock", "ok"))
        text = "clock stands on time from 0\npart meets on stands from 0\nend\npart now on time from 0\nend"
        self.says(Desk(text), ("pace now 1", "ok"), ("clock stands 2", "ok"), ("where meets 0", "-"), ("walk now", "-"),
                  ("draw now", "part now on time from 0\nend"), ("hear meets 1:1", "2"), ("row now 0", "-"))


class Made(unittest.TestCase):
    def test_refused_as_the_text_is_read(self):
        for thing in odd_things() + [None, 1, True, (), b"", [TEXT]]:
            with self.assertRaises(NoText) as caught:
                Desk(thing)
            self.assertEqual(caught.exception.line, 0)
        for text, number in [("", 1), (TEXT + "\n", 17), (TEXT.replace("=m", "=M", 1), 6), (TEXT[:-4], 15)]:
            with self.assertRaises(NoText) as caught:
                Desk(text)
            self.assertEqual(caught.exception.line, number)
        with self.assertRaises(NoScore):
            Desk(TEXT.replace("part c", "part a"))

    def test_walks_that_are_too_long(self):
        with self.assertRaises(TooLong):
            Desk("part a on time from 0\nend\npart b on time from 0\nsign s\nturn s\nend")


class Whole(Answers):
    def asked(self, desk, handed, changes, chance):
        """All that the desk tells, held against the functions, of a score without any pace changed."""
        names = [there[0] for there in handed[2]]
        gives = [(time, *deed[1:]) for time, deed in changes]
        for name in names:
            for voice in range(4):
                self.assertEqual(desk.say(f"row {name} {voice}"), self.row_text(row(handed, gives, name, voice)))
            time = chance.choice([whole(0), ONE, (5, 3), whole(9)])
            found = where(handed, gives, name, time)
            text = self.time_text(time)
            self.assertEqual(desk.say(f"where {name} {text}"),
                             "-" if found is None else f"{found[0]} {self.time_text(found[1])}")
        self.assertEqual(desk.say("meets"), self.parting_text(parting(handed, gives)))
        reasons = why(handed, gives)
        told = [f"{name} {reasons[name][0]} {' '.join(reasons[name][1])}" for name in sorted(reasons)]
        self.assertEqual(desk.say("stands"), "; ".join(told) or "-")

    def time_text(self, time):
        return "-" if time is None else str(fraction(time))

    def row_text(self, rows):
        told = [f"{self.time_text(begin)} {self.time_text(end)} {'.'.join(str(p) for p in pitches) or '-'}"
                for begin, end, pitches in rows]
        return "; ".join(told) or "-"

    def test_against_the_functions(self):
        for seed in range(60):
            chance = random.Random(seed)
            handed = some_score(chance)
            desk = Desk(show_score(handed))
            changes = [change for change in some_changes(chance, handed) if change[1][0] == "give"]
            for time, deed in changes:
                desk.say(f"go {self.time_text(time)}")
                self.assertEqual(desk.say(" ".join(deed)), "ok")
            self.asked(desk, handed, changes, chance)
            for name in [there[0] for there in handed[2]]:
                self.alone(desk, handed, name, chance)

    def alone(self, desk, handed, name, chance):
        entries = line(handed, name)
        ways = [".".join(str(number) for number in entries[at][2]) for at in walk(handed, name)]
        self.assertEqual(desk.say(f"walk {name}"), " ".join(ways) or "-")
        self.assertEqual(read_score(desk.say(f"draw {name}")), drawn(handed, [name]))
        rows = written(handed, name)
        heard_row = some_heard(chance, rows, nexts(handed, name))
        if heard_row:
            cost, way, table = heard(handed, name, heard_row)
            told = [str(cost)]
            for number, step in enumerate(step for step in way if step[0] == "hear"):
                text = ".".join(str(place) for place in rows[step[2]][2])
                if number == 0 or told[-1] != text:
                    told.append(text)
            self.assertEqual(desk.say(f"hear {name} {' '.join(item_text(thing) for thing in heard_row)}"), " ".join(told))

    def test_after_changes_of_all_kinds(self):
        stood = parted = 0
        for seed in range(80):
            chance = random.Random(seed)
            handed = some_score(chance)
            changes = some_changes(chance, handed)
            desk = Desk(show_score(handed))
            for time, deed in changes:
                desk.say(f"go {self.time_text(time)}")
                desk.say(" ".join(word if isinstance(word, str) else self.time_text(word) for word in deed))
            probes = {name: [pair(length * at / 5) for at in range(5)] for name, length in
                      [(there[0], walked_marks(handed, there[0])[1]) for there in handed[2]]}
            hall = Hall(handed, changes, probes)
            stuck = [name for name in probes if hall.log[name] and hall.log[name][-1][4] is None]
            found = desk.say("stands")
            self.assertEqual([] if found == "-" else [text.split(" ")[0] for text in found.split("; ")], stuck)
            self.assertEqual(desk.say("meets"), self.parting_text(plain_parting(handed, changes, Hall)))
            self.rows_and_places(desk, handed, hall, probes, plain_sounds(handed, changes, Hall))
            stood += len(stuck)
            parted += desk.say("meets") != "all"
        self.assertGreater(min(stood, parted), 20)

    def rows_and_places(self, desk, handed, hall, probes, told):
        for name in probes:
            for voice in range(4):
                rows = desk.say(f"row {name} {voice}").split("; ")
                mine = [f"{self.time_text(row[0])} {self.time_text(row[1])} {'.'.join(map(str, row[4]))}"
                        for row in told if row[2:4] == (name, voice)]
                self.assertEqual([text for text in rows if not text.endswith(" -") and text != "-"], mine)
            begins = [sum(fraction(size) for size in sizes) for sizes in self.sizes_ahead(handed, name)]
            for place in probes[name]:
                time = hall.probed(name, "early", place)
                if time is not None and max(time) < 10 ** 12 and begins:
                    number = max(at for at, begin in enumerate(begins) if begin <= fraction(place))
                    self.assertEqual(desk.say(f"where {name} {self.time_text(time)}"),
                                     f"{number} {fraction(place) - begins[number]}")

    def sizes_ahead(self, handed, name):
        entries = line(handed, name)
        sizes = [entries[at][1][1] for at in walk(handed, name)]
        return [sizes[:at] for at in range(len(sizes))]

    def parting_text(self, found):
        if found is None:
            return "all"
        sides = [f"{name} {number} {self.time_text(time)}" for name, number, time in found[2:]]
        return f"{found[0]} {found[1]} {' '.join(sides)}"

    def test_played_as_a_player_plays(self):
        for seed in range(60):
            chance = random.Random(seed)
            handed = some_score(chance)
            desk, player = Desk(show_score(handed)), Player(handed)
            changes = some_changes(chance, handed)
            told = []
            for time, deed in changes:
                events = player.go(time)
                self.assertEqual(desk.say(f"go {self.time_text(time)}"), self.events_text(events))
                player.change(deed)
                words = [word if isinstance(word, str) else self.time_text(word) for word in deed]
                self.assertEqual(desk.say(" ".join(words)), "ok")
                self.assertEqual(desk.say("now"), self.time_text(time))
                told += events
            events = player.go(whole(99999))
            self.assertEqual(desk.say("go 99999"), self.events_text(events))
            ons = [event for event in told + events if event[1] == "on"]
            self.assertEqual(len(ons), len(played(handed, changes)))

    def events_text(self, events):
        told = [f"{self.time_text(event[0])} {event[1]} {event[2]} {event[3]} {'.'.join(map(str, event[4]))}"
                for event in events]
        return "; ".join(told) or "-"

    def test_a_bar_by_its_text(self):
        text = "part a on time from 0\nbar 1 : 60:1\nend"
        self.assertEqual(Desk(text).say("draw a"), text)
        self.assertEqual(read_score(text)[2][0][3], (bar(),))


if __name__ == "__main__":
    unittest.main()
