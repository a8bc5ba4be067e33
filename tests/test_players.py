import copy
import random
import unittest
from fractions import Fraction

from making import (
    HALF, NOUGHT, ONE, TWO, Hall, bar, call, clock, filled, fraction, odd_things, one_part, pair, part, plain_sounds,
    plain_things, rest, score, sign, some_changes, some_score, tone, turn, voiced, wait, whole,
)

from manyclocks.changes import played
from manyclocks.errors import ClockError, NoDeed, NoTime, TooLong
from manyclocks.players import Player
from manyclocks.sounds import sounds

FAR = whole(100000)


def plain_events(told):
    """The events of sounds, sorted as point 21 says."""
    rows = [(row[0], "on", *row[2:]) for row in told] + [(row[1], "off", *row[2:]) for row in told if row[1]]
    return sorted(rows, key=lambda row: (fraction(row[0]), *row[1:]))


def changing(player, deeds):
    for deed in deeds:
        player.change(deed)


def state(player):
    """All that a player tells of itself."""
    return player.now(), player.changes()


class Players(unittest.TestCase):
    def test_events_up_to_a_time_but_not_at_it(self):
        player = Player(one_part(filled(tone(60), tone((62, 65)))))
        self.assertEqual(player.now(), NOUGHT)
        self.assertEqual(player.go(NOUGHT), [])
        self.assertEqual(player.go(ONE), [(NOUGHT, "on", "a", 0, (60,))])
        self.assertEqual(player.now(), ONE)
        self.assertEqual(player.go(ONE), [])
        rows = [(ONE, "off", "a", 0, (60,)), (ONE, "on", "a", 0, (62, 65))]
        self.assertEqual(player.go((3, 2)), rows)
        self.assertEqual(player.go(TWO), [])
        self.assertEqual(player.go((5, 2)), [(TWO, "off", "a", 0, (62, 65))])
        self.assertEqual(player.go(FAR), [])
        self.assertEqual(player.now(), FAR)

    def test_sorted_by_times_words_names_voices_pitches(self):
        both = voiced((tone(60), tone(50)), (tone(55), tone((50, 55))))
        player = Player(score(part("a", both), part("b", both)))
        told = player.go(FAR)
        at_one = [row[1:] for row in told if row[0] == ONE]
        self.assertEqual(at_one, [
            ("off", "a", 0, (60,)), ("off", "a", 1, (55,)), ("off", "b", 0, (60,)), ("off", "b", 1, (55,)),
            ("on", "a", 0, (50,)), ("on", "a", 1, (50, 55)), ("on", "b", 0, (50,)), ("on", "b", 1, (50, 55))])
        # Times stand as fractions do, not as tuples.
        told = Player(score(part("a", bar(), begin=(10, 3)), part("b", bar(), begin=(7, 2)))).go(FAR)
        self.assertEqual([row[0] for row in told], [(10, 3), (7, 2), (13, 3), (9, 2)])

    def test_tied_tones_have_no_events_between(self):
        player = Player(one_part(filled(tone(60, ONE, True), tone(60)), filled(tone(60, ONE, True)), bar(61)))
        told = [(row[0], row[1]) for row in player.go(FAR)]
        self.assertEqual(told, [(NOUGHT, "on"), (TWO, "off"), (TWO, "on"), (whole(3), "off"), (whole(3), "on"),
                                (whole(4), "off")])

    def test_tied_tones_led_to_where_they_go_on(self):
        player = Player(one_part(filled(tone(60, ONE, True), tone(60))))
        self.assertEqual(len(player.go(ONE)), 1)
        self.assertEqual(player.go(TWO), [])
        self.assertEqual(player.go(whole(3)), [(TWO, "off", "a", 0, (60,))])

    def test_a_sound_without_an_end_has_no_off(self):
        player = Player(one_part(filled(tone(60, ONE, False, True), wait("z", "x"), tone())))
        self.assertEqual(player.go(FAR), [(NOUGHT, "on", "a", 0, (60,))])
        player.change(("give", "z", "x"))
        self.assertEqual(player.go(whole(200000)), [
            (FAR, "off", "a", 0, (60,)), (FAR, "on", "a", 0, (60,)), (whole(100001), "off", "a", 0, (60,))])

    def test_parts_of_no_bars_and_of_rests(self):
        self.assertEqual(Player(score(part("a"), part("b", filled(rest())))).go(FAR), [])

    def test_in_pieces_however_cut(self):
        for seed in range(60):
            chance = random.Random(seed)
            handed = some_score(chance)
            told = plain_events(sounds(handed, []))
            self.assertEqual(Player(handed).go(FAR), told)
            player, rows = Player(handed), []
            cuts = sorted(Fraction(chance.randrange(40), chance.choice([1, 2, 3, 4])) for _ in range(9))
            for cut in [*cuts, cuts[-1], fraction(FAR)]:
                before = fraction(player.now())
                piece = player.go(pair(cut))
                self.assertEqual(player.now(), pair(cut))
                self.assertTrue(all(before <= fraction(row[0]) < cut for row in piece))
                rows.extend(piece)
            self.assertEqual(rows, told)

    def test_all_walks_are_needed(self):
        with self.assertRaises(TooLong):
            Player(score(part("a", bar()), part("b", sign("s"), turn("s"))))


class Changing(unittest.TestCase):
    def test_done_at_the_players_time(self):
        player = Player(one_part(filled(tone(60), tone(61), tone(62))))
        player.go((3, 2))
        self.assertIsNone(player.change(("pace", "a", TWO)))
        self.assertEqual(player.now(), (3, 2))
        self.assertEqual([row[0] for row in player.go(FAR)], [(5, 2), (5, 2), (9, 2)])
        self.assertEqual(player.changes(), [((3, 2), ("pace", "a", TWO))])

    def test_what_is_given_at_its_own_time_counts_for_that_time(self):
        player = Player(one_part(filled(tone(60, ONE, False, True), wait("z", "x"), tone(61))))
        player.go(ONE)
        player.change(("give", "z", "x"))
        self.assertEqual(player.go(TWO), [(ONE, "off", "a", 0, (60,)), (ONE, "on", "a", 0, (61,))])

    def test_changes_with_their_times(self):
        player = Player(score(part("a", bar()), clocks=[clock("k")]))
        deeds = [("give", "z", "x"), ("pace", "a", TWO), ("clock", "k", HALF), ("give", "k", "y")]
        self.assertEqual(player.changes(), [])
        rows = []
        for number, deed in enumerate(deeds + deeds):
            player.change(deed)
            rows.append((pair(Fraction(number // 2, 3)), deed))
            self.assertEqual(player.changes(), rows)
            player.go(pair(Fraction((number + 1) // 2, 3)))
        told = player.changes()
        told.append("more")
        told[0] = None
        self.assertEqual(player.changes(), rows)

    def test_in_pieces_with_changes_it_is_the_whole(self):
        for seed in range(100):
            chance = random.Random(seed)
            handed = some_score(chance)
            changes = some_changes(chance, handed)
            player, rows = Player(handed), []
            for time, deed in changes:
                # Pieces between the changes, too.
                middle = pair((fraction(player.now()) + fraction(time)) / 2)
                rows.extend(player.go(middle))
                rows.extend(player.go(time))
                player.change(deed)
            rows.extend(player.go(FAR))
            self.assertEqual(player.changes(), changes)
            self.assertEqual(rows, plain_events(played(handed, changes)), seed)
            self.assertEqual(rows, plain_events(plain_sounds(handed, changes, Hall)), seed)

    def test_two_players_side_by_side(self):
        handed = score(part("a", filled(tone(), wait("z", "x"), tone()), on="k"), clocks=[clock("k")])
        one, other = Player(handed), Player(handed)
        one.go(HALF)
        changing(one, [("pace", "a", TWO), ("clock", "k", TWO), ("give", "z", "x")])
        self.assertEqual(state(other), (NOUGHT, []))
        self.assertEqual(other.go(FAR), plain_events(sounds(handed, [])))
        self.assertEqual([row[0] for row in one.go(FAR)], [(5, 2), (5, 2), (13, 2)])
        self.assertEqual(Player(handed).go(FAR), plain_events(sounds(handed, [])))

    def test_told_lists_are_the_askers_own(self):
        handed = one_part(bar(), bar())
        before = copy.deepcopy(handed)
        player = Player(handed)
        told = player.go(HALF)
        told.clear()
        self.assertEqual([row[0] for row in player.go(FAR)], [ONE, ONE, TWO])
        self.assertEqual(handed, before)


class Refusals(unittest.TestCase):
    def setUp(self):
        handed = score(
            part("a", filled(tone(), wait("z", "x"), tone()), on="k"), part("b", filled(rest(), call("x"), tone())),
            clocks=[clock("b"), clock("k")])
        self.players = [Player(handed), Player(handed)]
        for player in self.players:
            player.go(HALF)
            player.change(("pace", "b", (1, 3)))

    def refused(self, deeds):
        """Refused are these deeds by the first player, and then both go on alike."""
        for deed in deeds:
            with self.assertRaises(NoDeed):
                self.players[0].change(deed)
            self.assertEqual(state(self.players[0]), state(self.players[1]))
        self.go_on()

    def go_on(self):
        for time in [whole(3), FAR]:
            told = [player.go(time) for player in self.players]
            self.assertEqual(told[0], told[1])
            self.assertTrue(told[0])
            for player in self.players:
                player.change(("give", "z", "x"))

    def test_a_time_ahead_of_its_own(self):
        for time in [NOUGHT, (1, 3), (499999, 999999)]:
            with self.assertRaises(NoTime) as caught:
                self.players[0].go(time)
            self.assertIsInstance(caught.exception, ClockError)
            self.assertEqual(state(self.players[0]), state(self.players[1]))
        self.assertEqual(self.players[0].go(HALF), [])
        self.go_on()

    def test_deeds_of_other_words_and_lengths(self):
        self.refused([
            ("give", "z"), ("give", "z", "x", "x"), ("pace", "a"), ("pace", "a", ONE, ONE), ("clock", "k"),
            ("clock", "k", ONE, ONE), ("call", "a", "x"), ("wait", "z", "x"), ("lean", "a", ONE), ("Pace", "a", ONE),
            ("", "a", ONE), (), ("give",), (None, "a", ONE), (b"pace", "a", ONE), ("paces", "a", ONE)])

    def test_lists(self):
        self.refused([
            ["pace", "a", ONE], ("pace", "a", [1, 1]), ["give", "z", "x"], ["clock", "k", ONE], (["pace"], "a", ONE),
            ("pace", ["a"], ONE), ("give", ["z"], "x"), ("give", "z", ["x"])])

    def test_names_of_none_and_of_others(self):
        self.refused([
            ("pace", "k", ONE), ("clock", "a", ONE), ("pace", "c", ONE), ("clock", "l", ONE), ("pace", "z", ONE),
            ("give", "a", "x"), ("give", "b", "x"), ("pace", None, ONE), ("clock", None, ONE), ("clock", "time", ONE)])

    def test_what_is_no_name(self):
        names = ["", "Z", "z1", "z z", "from", "on", "time", "end", "abcdefghi", None, 1, ("z",), b"z"]
        self.refused([("give", name, "x") for name in names] + [("give", "z", name) for name in names])

    def test_paces_that_are_none(self):
        wrong = [NOUGHT, (-1, 1), (1, -1), (2, 2), (2, 4), (0, 5), (1, 0), (True, 1), (1, True), 1, True, None, "1", (1,),
                 (1, 1, 1), ("1", "1"), ((1, 1), 1), (None, 1), (1, None)]
        self.refused([(word, name, beat) for word, name in [("pace", "a"), ("clock", "k")] for beat in wrong])

    def test_things_of_any_kind(self):
        things = odd_things() + plain_things()
        self.refused(things)

    def test_things_of_any_kind_within(self):
        forms = [("give", "z", "x"), ("pace", "a", ONE), ("clock", "k", ONE)]
        for thing in odd_things():
            for form in forms:
                for at in range(3):
                    self.refused_once((*form[:at], thing, *form[at + 1:]))
            self.refused_once(("pace", "a", (thing, 1)))
            self.refused_once(("clock", "k", (1, thing)))
        for thing in plain_things():
            for form in forms:
                self.refused_once((thing, *form[1:]))
            if thing != (1, 2):
                self.refused_once(("pace", "a", thing))
                self.refused_once(("clock", "k", thing))
        self.go_on()

    def refused_once(self, deed):
        with self.assertRaises(NoDeed):
            self.players[0].change(deed)
        self.assertEqual(state(self.players[0]), state(self.players[1]))

    def test_a_name_of_a_part_and_a_clock_is_both(self):
        self.players[0].change(("clock", "b", ONE))
        self.players[0].change(("pace", "b", ONE))
        self.assertEqual(len(self.players[0].changes()), 3)

    def test_a_give_by_a_clocks_name(self):
        self.players[0].change(("give", "k", "x"))
        self.assertEqual(self.players[0].changes()[-1], (HALF, ("give", "k", "x")))


if __name__ == "__main__":
    unittest.main()
