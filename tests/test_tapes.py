"""Tapes: speeds told in any order, and what they tell of the talk, against runs of the tests' own machine."""

import itertools
import random
import time
import unittest

from rateplan.errors import NoPace, NoRoom
from rateplan.roads import known
from rateplan.runs import run_of
from rateplan.speeds import Speed
from rateplan.tapes import Tape
from rateplan.talks import Talk
from tests.guards import some_rule
from tests.machines import Machine
from tests.samples import deep_list, things_of_any_kind
from tests.walks import some_options, some_plan, some_talk


def small():
    return Talk((4, 2, 3), ((10, 25), (6, 12), (8, 9)))


def tape_of(speeds, talk=None, chooser=(0, 0, 0), order=None, **options):
    """A tape of these speeds from beat 0 on, told in an order, of which None is never told."""
    tape = Tape(talk or small(), chooser, **options)
    for beat in order or range(len(speeds)):
        if speeds[beat] is not None:
            tape.tell(beat, speeds[beat])
    return tape


def machine_behind(beats, speeds, talk, chooser, **options):
    """The machine behind so many beats, or behind the end, a rate being chosen where it asks then."""
    machine = Machine(talk, **options)
    machine.choose(machine.told(chooser))
    for beat in range(beats):
        if machine.ended():
            break
        machine.beat((speeds[beat] or 0) if beat < len(speeds) else 0)
        if machine.asks():
            machine.choose(machine.told(chooser))
    return machine


class TapesTest(unittest.TestCase):

    def assert_told(self, tape, beats, speeds, talk, chooser, **options):
        machine = machine_behind(beats, speeds, talk, chooser, **options)
        self.assertEqual(tape.stand_behind(beats), machine.stand())
        self.assertEqual(tape.played_till(beats), tuple(machine.played))
        self.assertEqual(tape.chosen_till(beats), tuple(machine.rates))

    def some_case(self, dice, most=40):
        talk = some_talk(dice, dice.randint(1, 5), dice.randint(1, 3), dice.choice((2, 6)), dice.choice((5, 20)))
        chooser = dice.choice((some_plan(dice, talk), some_rule(dice, talk.many_rates())))
        options = {} if dice.random() < 0.2 else some_options(dice, talk, dice.choice((3, 9)))
        speeds = [dice.choice((None, 0, dice.randint(0, 9), dice.randint(0, 9))) for _ in range(dice.randint(1, most))]
        return talk, chooser, options, speeds


class ToldTest(TapesTest):

    def test_defined_here_with_its_methods(self):
        self.assertEqual(Tape.__module__, "rateplan.tapes")
        for name in ("tell", "stand_behind", "played_till", "chosen_till", "__len__", "__eq__"):
            self.assertIn(name, vars(Tape))

    def test_by_hand(self):
        tape = Tape(small(), (0, 1, 0), begin=3)
        self.assertIsNone(tape.tell(1, 6))
        self.assertIsNone(tape.tell(0, 4))
        self.assertEqual(tape.stand_behind(0), (0, 0, 0, 0, 0, 0))
        self.assertEqual(tape.stand_behind(1), (0, 0, 4, 0, 0, 0))
        # The next rate is chosen behind the beat in which the first stretch is whole.
        self.assertEqual(tape.stand_behind(2), (1, 1, 0, 4, 0, 0))
        self.assertEqual(tape.stand_behind(3), (1, 1, 0, 3, 1, 1))
        self.assertEqual(tape.stand_behind(7), (1, 1, 0, 0, 4, 2))
        self.assertEqual([tape.chosen_till(beat) for beat in (0, 1, 2, 99)], [(0,), (0,), (0, 1), (0, 1)])
        self.assertEqual(tape.played_till(2), ())
        self.assertEqual(tape.played_till(4), ((2, 0), (3, 1)))
        self.assertEqual(tape.played_till(99), ((2, 0), (3, 1), (4, 2), (5, 3)))
        tape.tell(2, 12)
        self.assertEqual(tape.stand_behind(3), (2, 0, 0, 5, 1, 1))
        tape.tell(3, 8)
        self.assertEqual(tape.stand_behind(4), (3, -1, 0, 7, 2, 1))
        self.assertEqual(tape.chosen_till(4), (0, 1, 0))
        self.assertEqual(tape.stand_behind(11), (3, -1, 0, 0, 9, 1))
        self.assertEqual(tape.stand_behind(12), (3, -1, 0, 0, 9, 1))
        self.assertEqual(tape.played_till(12), tuple(zip(range(2, 11), range(9))))

    def test_nothing_told(self):
        tape = Tape(small(), (1, 0, 0))
        self.assertEqual(len(tape), 0)
        for beat in (0, 1, 9, 600):
            self.assertEqual((tape.stand_behind(beat), tape.played_till(beat)), ((0, 1, 0, 0, 0, 0), ()))
            self.assertEqual(tape.chosen_till(beat), (1,))

    def test_kinds_of_what_is_told(self):
        tape = tape_of((9,) * 30)
        for beat in (0, 3, 99):
            for told in (tape.stand_behind(beat), tape.played_till(beat), tape.chosen_till(beat)):
                self.assertIs(type(told), tuple)
            self.assertEqual({type(pair) for pair in tape.played_till(99)}, {tuple})

    def test_against_the_machine(self):
        dice = random.Random(181)
        for _ in range(150):
            talk, chooser, options, speeds = self.some_case(dice)
            order = list(range(len(speeds)))
            dice.shuffle(order)
            tape = tape_of(speeds, talk, chooser, order, **options)
            for beats in [0, 1, len(speeds) - 1, len(speeds), len(speeds) + 7, 300, dice.randint(0, len(speeds))]:
                self.assert_told(tape, beats, speeds, talk, chooser, **options)

    def test_as_runs(self):
        dice = random.Random(182)
        for _ in range(100):
            talk, chooser, options, speeds = self.some_case(dice)
            speeds = [speed or 0 for speed in speeds] + [3] * 300
            run = run_of(talk, known(speeds), chooser, **options)
            tape = tape_of(speeds, talk, chooser, **options)
            self.assertEqual(tape.played_till(run.ended), tuple(zip(run.plays, range(len(talk)))))
            self.assertEqual(tape.played_till(10 ** 9), tape.played_till(run.ended))
            self.assertEqual(tape.chosen_till(run.ended), run.rates)
            for beat in range(run.ended + 1):
                begun = [begun for begun in run.begun if begun <= beat]
                self.assertEqual(tape.chosen_till(beat), run.rates[:len(begun)])
                self.assertEqual(tape.stand_behind(beat)[3], run.kept[beat - 1] if beat else 0)

    def test_a_telling_behind_an_asking(self):
        dice = random.Random(183)
        for _ in range(40):
            talk, chooser, options, speeds = self.some_case(dice, 25)
            tape, told = Tape(talk, chooser, **options), [None] * len(speeds)
            for _ in range(25):
                beat = dice.randrange(len(speeds))
                told[beat] = dice.choice((0, dice.randint(1, 9)))
                tape.tell(beat, told[beat])
                self.assert_told(tape, dice.randint(0, len(speeds) + 3), told, talk, chooser, **options)
                self.assertEqual(len(tape), len(speeds) - told.count(None))

    def test_told_again_a_beat_has_the_last_one_told(self):
        tape = tape_of((3, 3, 3))
        self.assertEqual(tape.stand_behind(3), (0, 0, 9, 0, 0, 0))
        tape.tell(1, 2)
        self.assertEqual((tape.stand_behind(3), len(tape)), ((0, 0, 8, 0, 0, 0), 3))
        tape.tell(1, 0)
        self.assertEqual((tape.stand_behind(3), len(tape)), ((0, 0, 6, 0, 0, 0), 3))
        tape.tell(1, 4)
        self.assertEqual((tape.stand_behind(3), len(tape)), ((1, 0, 0, 4, 0, 0), 3))

    def test_what_is_told_of_beats_hangs_on_no_speed_of_later_ones(self):
        dice = random.Random(184)
        for _ in range(60):
            talk, chooser, options, speeds = self.some_case(dice)
            one, other = tape_of(speeds, talk, chooser, **options), tape_of(speeds, talk, chooser, **options)
            beat = dice.randint(0, len(speeds))
            for later in range(beat, beat + 30):
                other.tell(later, dice.randint(0, 50))
            self.assertEqual(one.stand_behind(beat), other.stand_behind(beat))
            self.assertEqual(one.played_till(beat), other.played_till(beat))
            self.assertEqual(one.chosen_till(beat), other.chosen_till(beat))

    def test_a_rule_is_shown_as_in_a_run(self):
        seen = []
        tape = tape_of((5, 0, 5, 6), small(), lambda shown: seen.append(shown) or 0, wait=1)
        # Told late, the speed of beat 1 makes the first fetch one beat shorter.
        for again, beats in ((None, 4), (5, 3)):
            if again:
                tape.tell(1, again)
            del seen[:]
            tape.stand_behind(beats)
            self.assertEqual([shown[:3] for shown in seen], [(0, 0, None), (1, 4, 0)])
            self.assertIsNone(seen[0][3])
            self.assertEqual((type(seen[1][3]), seen[1][3].bits, seen[1][3].beats), (Speed, 10, beats))

    def test_what_is_no_rate_is_taken_for_nought(self):
        for told in (None, True, False, -1, 2, "1", [1], 10 ** 39):
            self.assertEqual(Tape(small(), lambda seen: told).chosen_till(0), (0,))

    def test_beats_about_those_where_the_figures_are_one_more(self):
        talk = Talk((20,) * 12, ((300,),) * 12)
        dice = random.Random(185)
        order = list(range(600))
        dice.shuffle(order)
        speeds = [dice.randint(0, 10) for _ in range(600)]
        tape = tape_of(speeds, talk, (0,) * 12, order)
        self.assertEqual(len(tape), 600)
        for beats in (8, 9, 10, 11, 98, 99, 100, 101, 598, 599, 600, 601, 900):
            self.assert_told(tape, beats, speeds, talk, (0,) * 12)

    def test_six_hundred_tellings_each_asked_in_good_time(self):
        talk = Talk((20,) * 12, ((400, 1000),) * 12)
        tape = Tape(talk, lambda seen: seen[1] % 2)
        begun = time.process_time()
        for beat in range(599, -1, -1):
            tape.tell(beat, 9)
            tape.stand_behind(600)
        self.assertLess(time.process_time() - begun, 20)

    def test_very_late_beats_and_very_great_speeds(self):
        tape = Tape(small(), (0, 0, 0))
        tape.tell(10 ** 39, 5)
        tape.tell(0, 10 ** 39)
        self.assertEqual(len(tape), 2)
        self.assertEqual(tape.stand_behind(1), (1, 0, 0, 4, 0, 0))

    def test_options_in_any_order(self):
        named = {"begin": 2, "again": 3, "most": 4, "wait": 1}
        speeds = (9, 4, 0, 6, 7, 8, 0, 3, 9, 9)
        for order in itertools.permutations(named.items()):
            tape = tape_of(speeds, small(), (0, 1, 0), **dict(order))
            for beats in range(12):
                self.assert_told(tape, beats, speeds, small(), (0, 1, 0), **named)

    def test_options_left_out(self):
        speeds = (9, 4, 0, 6, 7, 8, 0, 3, 9, 9)
        full = tape_of(speeds, begin=4, again=8, most=30, wait=0)
        self.assertTrue(full == tape_of(speeds))
        for beats in range(12):
            self.assertEqual(full.stand_behind(beats), tape_of(speeds).stand_behind(beats))


class EqualTest(TapesTest):

    def assert_equal(self, one, other):
        for told in (one == other, other == one):
            self.assertIs(told, True)
        self.assertIs(one != other, False)

    def assert_unequal(self, one, other):
        for told in (one == other, other == one):
            self.assertIs(told, False)
        self.assertIs(one != other, True)

    def test_told_in_other_orders(self):
        speeds = (4, 0, 7, 2)
        for order in itertools.permutations(range(4)):
            self.assert_equal(tape_of(speeds), tape_of(speeds, order=order))

    def test_noughts_told_or_left_out(self):
        self.assert_equal(tape_of((4, 0, 7, 0, 0)), tape_of((4, None, 7)))
        self.assert_equal(tape_of(()), tape_of((0, 0)))
        self.assertEqual((len(tape_of((0, 0))), len(tape_of(()))), (2, 0))
        over = tape_of((4, 5, 7))
        self.assert_unequal(over, tape_of((4, 0, 7)))
        over.tell(1, 0)
        self.assert_equal(over, tape_of((4, None, 7)))

    def test_of_another_speed_talk_plan_or_option(self):
        tape = tape_of((4, 0, 7), begin=5)
        self.assert_equal(tape, tape_of((4, 0, 7), small(), begin=5))
        for other in (
            tape_of((4, 0, 8), begin=5), tape_of((4, 1, 7), begin=5), tape_of((4, 0, 7, 1), begin=5), tape_of((4,), begin=5),
            tape_of((4, 0, 7), Talk((4, 2, 3), ((10, 25), (6, 12), (8, 10))), begin=5),
            tape_of((4, 0, 7), Talk((4, 2, 4), ((10, 25), (6, 12), (8, 9))), begin=5),
            tape_of((4, 0, 7), chooser=(0, 0, 1), begin=5), tape_of((4, 0, 7)), tape_of((4, 0, 7), begin=6),
            tape_of((4, 0, 7), begin=5, again=9), tape_of((4, 0, 7), begin=5, most=29), tape_of((4, 0, 7), begin=5, wait=1),
            tape_of((4, 0, 7), begin=8, again=5), tape_of((4, 0, 7), chooser=lambda seen: 0, begin=5),
        ):
            self.assert_unequal(tape, other)

    def test_by_the_very_same_rule(self):
        def rule(seen):
            return 0

        def alike(seen):
            return 0
        self.assert_equal(tape_of((4, 0, 7), chooser=rule), tape_of((4, None, 7), chooser=rule))
        self.assert_unequal(tape_of((4, 0, 7), chooser=rule), tape_of((4, 0, 7), chooser=alike))
        self.assert_unequal(tape_of((4, 0, 7), chooser=rule), tape_of((4, 0, 7)))

    def test_nothing_else_is_equal(self):
        tape = tape_of(())
        for other in things_of_any_kind() + [0, "", {}, small(), run_of(small(), known((1,)), (0, 0, 0)), Tape]:
            self.assert_unequal(tape, other)

    def test_two_tapes_share_nothing(self):
        talk = small()
        one, other = Tape(talk, (0, 0, 0)), Tape(talk, (0, 0, 0))
        one.tell(0, 5)
        self.assertEqual((len(one), len(other)), (1, 0))
        self.assert_unequal(one, other)
        other.tell(0, 5)
        self.assert_equal(one, other)
        self.assertEqual(repr(talk), repr(small()))


class RefusalsTest(TapesTest):

    def wrong(self):
        return things_of_any_kind() + ["", "0", -1, -10 ** 39, deep_list(), Speed(1, 1), small(), len]

    def assert_no_pace(self, tape, beat, speed, thing):
        ahead = (len(tape), tape.stand_behind(5), tape.played_till(9), tape.chosen_till(9))
        with self.assertRaises(NoPace) as caught:
            tape.tell(beat, speed)
        self.assertIs(type(caught.exception), NoPace)
        self.assertIs(caught.exception.thing, thing)
        self.assertEqual((len(tape), tape.stand_behind(5), tape.played_till(9), tape.chosen_till(9)), ahead)
        self.assertTrue(tape == tape_of((4, 5)))

    def test_no_pace_of_the_beat_then_of_the_speed(self):
        tape = tape_of((4, 5))
        for thing in self.wrong():
            self.assert_no_pace(tape, thing, 5, thing)
            self.assert_no_pace(tape, 0, thing, thing)
            for other in self.wrong()[:6]:
                self.assert_no_pace(tape, thing, other, thing)

    def test_no_room(self):
        for lengths, most, number in (((4, 2), 3, 0), ((2, 4), 3, 1), ((2, 4, 5), 3, 1), ((30, 31), 30, 1), ((31,), 30, 0)):
            with self.assertRaises(NoRoom) as caught:
                Tape(Talk(lengths, ((1, 2),) * len(lengths)), (0,) * len(lengths), **({} if most == 30 else {"most": most}))
            self.assertIs(type(caught.exception), NoRoom)
            self.assertEqual(caught.exception.thing, number)
        self.assertEqual(len(Tape(Talk((4, 2), ((1,), (1,))), (0, 0), most=4)), 0)


if __name__ == "__main__":
    unittest.main()
