"""The promise of point 3, (a) to (h), over scores of several parts, clocks and phrases."""

import random
import unittest
from fractions import Fraction

from making import (
    Hall, Stage, fraction, pair, plain_cost, plain_sounds, some_changes, some_gives, some_heard, some_score, steps_of,
    walked_marks, whole,
)

from manyclocks.changes import played
from manyclocks.desk import Desk
from manyclocks.drawing import drawn, together, wants
from manyclocks.heardpapers import shows_heard
from manyclocks.hearing import heard
from manyclocks.lines import line
from manyclocks.meetings import parting
from manyclocks.players import Player
from manyclocks.reading import read_score
from manyclocks.showing import show_score
from manyclocks.sounds import sounds
from manyclocks.standing import why
from manyclocks.stretches import stretch
from manyclocks.timepapers import paper, shows_times
from manyclocks.times import waits
from manyclocks.walks import unfolded, walk
from manyclocks.written import nexts, written

FAR = whole(99999)


def cases(many, begin=1000):
    """Scores with gives, and a chance for each."""
    for seed in range(begin, begin + many):
        chance = random.Random(seed)
        handed = some_score(chance)
        yield chance, handed, some_gives(chance)


def names_of(handed):
    return [there[0] for there in handed[2]]


def meetings(handed, gives):
    """The times of all who must meet, None of those who never come, by (x, k)."""
    stage = Stage(handed, gives)
    told = {}
    for name in names_of(handed):
        times = [row[4] for row in stage.log[name] if row[1][0] == "meet"]
        marks = [row[1][1] for row in walked_marks(handed, name)[0] if row[1][0] == "meet"]
        for at, word in enumerate(marks):
            time = times[at] if at < len(times) else None
            told.setdefault((word, marks[:at + 1].count(word)), {})[name] = time
    return told


def awaited(handed, name):
    """The names whose calls a part's walk waits for."""
    return {row[1][1] for row in walked_marks(handed, name)[0] if row[1][0] == "wait"}


def clocks_above(handed, name):
    """The clocks on which a part hangs, by way of others too."""
    on_by_name = {there[0]: there[1] for there in handed[0]}
    told, on = [], {there[0]: there[1] for there in handed[2]}[name]
    while on is not None:
        told.append(on)
        on = on_by_name[on]
    return told


def moved_by(handed, clock):
    """The parts that hang on a clock, or wait for what does."""
    told = {name for name in names_of(handed) if clock in clocks_above(handed, name)}
    for _ in names_of(handed):
        told |= {name for name in names_of(handed) if awaited(handed, name) & told}
    return told


class Promise(unittest.TestCase):
    def test_a_sounds_at_just_their_times_and_papers(self):
        for chance, handed, gives in cases(40):
            self.assertEqual(sounds(handed, gives), plain_sounds(handed, gives))
            ends = {name: [late for early, late in rows if late is not None]
                    for name, rows in waits(handed, gives).items()}
            told = list(paper(handed, gives))
            self.assertTrue(shows_times(handed, gives, tuple(told)))
            # Of each paper that is taken, whoever made it, the times are these.
            for _ in range(10):
                other = list(told)
                if other and chance.random() < 0.5:
                    at = chance.randrange(len(other))
                    other[at] = (other[at][0], pair(fraction(other[at][1]) + chance.choice([-1, 0, Fraction(1, 2)])))
                chance.shuffle(other)
                if shows_times(handed, gives, tuple(other)):
                    self.assertEqual({name: [time for there, time in other if there == name] for name in ends}, ends)

    def test_b_meetings_and_parts_that_stand(self):
        parted = stood = 0
        for chance, handed, gives in cases(80):
            found, rows = parting(handed, gives), meetings(handed, gives)
            if found is None:
                self.assertTrue(all(len(set(row.values())) == 1 for row in rows.values()))
            else:
                for name, number, time in found[2:]:
                    self.assertEqual(rows[found[:2]][name], None if time is None else fraction(time))
                self.assertNotEqual(found[2][2], found[3][2])
                parted += 1
            stuck = {name for name, row in waits(handed, gives).items() if row and row[-1][1] is None}
            reasons = why(handed, gives)
            self.assertEqual(set(reasons), stuck)
            for name, (word, names) in reasons.items():
                self.row_of_who_waits(handed, name, word, names)
                stood += 1
        self.assertGreater(min(parted, stood), 20)

    def row_of_who_waits(self, handed, name, word, names):
        self.assertEqual(names[0], name)
        self.assertEqual(len(set(names)), len(names))
        for one, other in zip(names, names[1:]):
            self.assertIn(other, awaited(handed, one))
        if word == "ring":
            self.assertTrue(awaited(handed, names[-1]) & set(names))
        else:
            self.assertEqual(word, "lacks")

    def test_c_the_walk_is_the_plain_unfolding(self):
        for chance, handed, gives in cases(80):
            for name, on, begin, things in handed[2]:
                if not any(thing[0] == "turn" for thing in things):
                    entries = line(handed, name)
                    self.assertEqual([entries[at][2] for at in walk(handed, name)], unfolded(handed, name))

    def test_d_in_pieces_it_is_the_whole(self):
        for chance, handed, gives in cases(40):
            told = sounds(handed, [])
            one, other, third = sorted(Fraction(at, 4) for at in chance.sample(range(60), 3))
            player, events = Player(handed), []
            for cut in [one, one, other, third, fraction(FAR)]:
                events += player.go(pair(cut))
            self.assertEqual(events, Player(handed).go(FAR))
            self.assertEqual([event[0] for event in events if event[1] == "on"], [row[0] for row in told])
            # A stretch is cut out of the whole, and one out of a stretch is one out of the whole.
            cut = stretch(told, pair(one), pair(third))
            self.assertEqual(cut, stretch(stretch(told, (0, 1), FAR), pair(one), pair(third)))
            self.assertEqual(stretch(cut, (0, 1), pair(other - one)), stretch(told, pair(one), pair(other)))

    def test_e_changes_while_it_plays(self):
        for chance, handed, gives in cases(60):
            changes = some_changes(chance, handed)
            player, events = Player(handed), []
            for time, deed in changes:
                events += player.go(time)
                player.change(deed)
            events += player.go(FAR)
            # What was told ahead of each change stayed: all pieces are what the score with all the changes tells.
            rows = [(time, word, *row[2:]) for row in plain_sounds(handed, changes, Hall)
                    for time, word in [(row[0], "on"), (row[1], "off")] if time is not None]
            self.assertEqual(events, sorted(rows, key=lambda row: (fraction(row[0]), *row[1:])))

    def test_e_a_changed_clock_moves_only_what_hangs_on_it_or_waits_for_what_does(self):
        moved = 0
        for chance, handed, gives in cases(80):
            before = sounds(handed, [])
            for clock in [there[0] for there in handed[0]]:
                time = pair(Fraction(chance.randrange(12), 3))
                told = played(handed, [(time, ("clock", clock, (11, 7)))])
                others = set(names_of(handed)) - moved_by(handed, clock)
                self.assertEqual([row for row in told if row[2] in others], [row for row in before if row[2] in others])
                moved += told != before
        self.assertGreater(moved, 20)

    def test_f_parts_drawn_out_and_put_together(self):
        for chance, handed, gives in cases(60):
            names = names_of(handed)
            put = together([drawn(handed, [name]) for name in names])
            self.assertEqual(put[2], handed[2])
            self.assertEqual(put, drawn(handed, names))
            self.assertEqual(sounds(put, gives), sounds(handed, gives))
            whole_one = sounds(handed, gives)
            for name in names:
                alone = sounds(drawn(handed, [name]), wants(handed, gives, [name]))
                self.assertEqual(alone, [row for row in whole_one if row[2] == name])

    def test_g_a_heard_row_at_the_least_cost(self):
        for chance, handed, gives in cases(60):
            for name in names_of(handed):
                rows, behind = written(handed, name), nexts(handed, name)
                row = some_heard(chance, rows, behind)
                told = heard(handed, name, row)
                least = plain_cost(rows, behind, row)
                self.assertEqual(told[0], least)
                self.assertTrue(shows_heard(handed, name, row, told))
                # A dearer way has no table: not even with all numbers as great as steps let them be.
                way = self.some_way(chance, rows, behind, row)
                if way[0] > least:
                    most = tuple(tuple(number + way[0] - least for number in costs) for costs in told[2])
                    for table in [told[2], most, (told[2][0], *most[1:])]:
                        self.assertFalse(shows_heard(handed, name, row, (way[0], way[1], table)))
                else:
                    self.assertTrue(shows_heard(handed, name, row, (way[0], way[1], told[2])))

    def some_way(self, chance, rows, behind, row):
        """Any way of a heard row, with its cost."""
        state, cost, way = (0, chance.randrange(len(rows) + 1)), 0, ()
        while state[0] < len(row):
            step, more, state = chance.choice(steps_of(rows, behind, row, state))
            cost, way = cost + more, (*way, step)
        return cost, way

    def test_h_what_is_written_is_read_again_and_the_desk_answers(self):
        for chance, handed, gives in cases(40):
            text = show_score(handed)
            self.assertEqual(repr(read_score(text)), repr(handed))
            desk, player = Desk(text), Player(read_score(text))
            self.assertEqual(desk.say("draw " + " ".join(names_of(handed))), show_score(drawn(handed, names_of(handed))))
            events = player.go(FAR)
            told = desk.say("go 99999").split("; ")
            self.assertEqual([row.split(" ")[0] for row in told if row != "-"], [str(fraction(row[0])) for row in events])
            self.assertEqual(desk.say("meets") == "all", parting(handed, []) is None)
            found = desk.say("stands")
            self.assertEqual([row.split(" ")[0] for row in found.split("; ") if row != "-"], sorted(why(handed, [])))


if __name__ == "__main__":
    unittest.main()
