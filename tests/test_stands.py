"""Stands: the first one, right ones, asking ones, choices, beats; no room ahead of all else."""

import itertools
import random
import unittest

from rateplan import stands
from rateplan.errors import NoRoom
from rateplan.roads import Road
from rateplan.runs import run_of
from rateplan.stands import asks, chosen, first_stand, gone, is_stand
from rateplan.talks import Talk
from tests.machines import is_right_stand
from tests.samples import things_of_any_kind
from tests.walks import Walk, some_talk, some_walks


def small():
    return Talk((4, 2, 3), ((10, 25), (6, 12), (8, 9)))


def stands_of_walks(seed, many):
    """(talk, road, options, stands ahead of each beat behind the choice there), of walks of the tests' own."""
    for talk, road, plan, options in some_walks(seed, many):
        walk = Walk(talk, road, plan, **options)
        yield talk, road, plan, options, walk


class FirstStandTest(unittest.TestCase):

    def test_it(self):
        self.assertEqual(first_stand(), (0, -1, 0, 0, 0, 0))
        self.assertIs(type(first_stand()), tuple)

    def test_all_are_defined_here(self):
        for name in ("first_stand", "is_stand", "asks", "chosen", "gone"):
            self.assertEqual(getattr(stands, name).__module__, "rateplan.stands")


class IsStandTest(unittest.TestCase):

    def assert_stand(self, told, talk, thing, **options):
        self.assertIs(is_stand(talk, thing, **options), told, (thing, options))

    def test_right_ones_by_hand(self):
        for thing in (
            (0, -1, 0, 0, 0, 0), (0, 0, 0, 0, 0, 0), (0, 1, 24, 0, 0, 0), (1, -1, 0, 4, 0, 0), (1, -1, 0, 3, 1, 1),
            (1, -1, 0, 0, 4, 2), (1, 1, 11, 2, 2, 2), (2, 0, 7, 6, 0, 0), (3, -1, 0, 9, 0, 0), (3, -1, 0, 0, 9, 1),
            (3, -1, 0, 0, 9, 2), (2, 1, 8, 0, 6, 2),
        ):
            self.assert_stand(True, small(), thing)

    def test_each_part_put_otherwise(self):
        for thing in (
            (-1, -1, 0, 0, 0, 0), (4, -1, 0, 9, 0, 0), (4, -1, 0, 0, 9, 1), (1, -1, 0, 0, 0, 0),
            (0, -2, 0, 0, 0, 0), (0, 2, 0, 0, 0, 0), (3, 0, 0, 9, 0, 0), (3, 1, 0, 4, 5, 1),
            (0, -1, 1, 0, 0, 0), (0, -1, -1, 0, 0, 0), (0, 0, 10, 0, 0, 0), (0, 1, 25, 0, 0, 0), (0, 0, -1, 0, 0, 0),
            (1, 0, 6, 4, 0, 0), (1, -1, 0, 3, 0, 0), (1, -1, 0, 5, 0, 0), (1, -1, 0, 5, -1, 1), (1, -1, 0, -1, 5, 1),
            (1, -1, 0, 4, 1, 1), (1, -1, 0, 2, 1, 1),
            (1, -1, 0, 4, 0, 1), (1, -1, 0, 4, 0, 2), (1, -1, 0, 4, 0, -1), (1, -1, 0, 4, 0, 3),
            (1, -1, 0, 3, 1, 0), (1, -1, 0, 3, 1, 3), (1, -1, 0, 3, 1, -1),
        ):
            self.assert_stand(False, small(), thing)

    def test_by_most_and_wait(self):
        talk = small()
        self.assert_stand(True, talk, (2, -1, 0, 6, 0, 0), most=6)
        self.assert_stand(False, talk, (2, -1, 0, 6, 0, 0), most=5)
        self.assert_stand(True, talk, (2, -1, 0, 5, 1, 1), most=5)
        # Whether a coming one has room isn't asked.
        self.assert_stand(True, talk, (2, 0, 3, 5, 1, 1), most=5)
        self.assert_stand(True, talk, (0, 0, -3, 0, 0, 0), wait=3)
        self.assert_stand(False, talk, (0, 0, -4, 0, 0, 0), wait=3)
        self.assert_stand(False, talk, (0, -1, -3, 0, 0, 0), wait=3)
        self.assert_stand(False, talk, (0, 0, -1, 0, 0, 0))
        self.assert_stand(True, talk, (0, 0, -400, 0, 0, 0), most=400, wait=400)
        self.assert_stand(True, talk, (0, 0, -400, 0, 0, 0), wait=400, most=400)

    def test_most_left_out_is_thirty(self):
        talk = Talk((20, 10, 1), ((1,), (1,), (1,)))
        self.assert_stand(True, talk, (2, -1, 0, 30, 0, 0))
        self.assert_stand(False, talk, (3, -1, 0, 31, 0, 0))
        self.assert_stand(True, talk, (3, -1, 0, 31, 0, 0), most=31)

    def test_all_small_tuples(self):
        talk = Talk((2, 1), ((2, 1), (1, 3)))
        numbers = [range(-1, 4), range(-2, 3), range(-2, 4), range(-1, 4), range(-1, 5), range(-1, 4)]
        for most, wait in ((2, 0), (3, 1), (30, 0)):
            for thing in itertools.product(*numbers):
                self.assertIs(is_stand(talk, thing, most=most, wait=wait), is_right_stand(talk, thing, most, wait))

    def test_stands_of_walks_and_each_one_changed_a_little(self):
        for talk, _, _, options, walk in stands_of_walks(21, 30):
            named = {"most": options["most"], "wait": options["wait"]}
            for stand in walk.stands:
                self.assert_stand(True, talk, stand, **named)
                for at in range(6):
                    for part in (stand[at] - 1, stand[at] + 1, -stand[at] - 1):
                        thing = stand[:at] + (part,) + stand[at + 1:]
                        self.assert_stand(is_right_stand(talk, thing, **named), talk, thing, **named)

    def test_parts_that_are_no_numbers(self):
        for stand in ((0, -1, 0, 0, 0, 0), (1, 1, 1, 3, 1, 1), (3, -1, 0, 9, 0, 0)):
            self.assert_stand(True, small(), stand)
            for at in range(6):
                for part in (True, False, None, "", "0", str(stand[at]), (), (stand[at],), [stand[at]], {}, small()):
                    self.assert_stand(False, small(), stand[:at] + (part,) + stand[at + 1:])

    def test_a_part_left_out_or_more(self):
        for stand in ((0, -1, 0, 0, 0, 0), (1, 1, 1, 3, 1, 1)):
            for at in range(6):
                self.assert_stand(False, small(), stand[:at] + stand[at + 1:])
                self.assert_stand(False, small(), stand[:at] + (0,) + stand[at:])
            self.assert_stand(False, small(), stand + (0,))
            self.assert_stand(False, small(), list(stand))
            self.assert_stand(False, small(), (stand,))
            self.assert_stand(False, small(), dict(enumerate(stand)))

    def test_things_of_other_kinds(self):
        for thing in things_of_any_kind() + [0, -1, 10 ** 39, "", "(0, -1, 0, 0, 0, 0)", "x" * 4000, first_stand]:
            before = repr(thing)
            self.assert_stand(False, small(), thing)
            self.assertEqual(repr(thing), before)

    def test_numbers_of_forty_figures(self):
        for at in range(6):
            for number in (10 ** 39, -10 ** 39):
                thing = [1, 1, 1, 3, 1, 1]
                thing[at] = number
                self.assert_stand(False, small(), tuple(thing))
        self.assert_stand(False, small(), (1, -1, 0, 4 - 10 ** 39, 10 ** 39, 1))


class AsksTest(unittest.TestCase):

    def test_by_hand(self):
        talk = small()
        for stand, most, told in (
            ((0, -1, 0, 0, 0, 0), 30, True),
            ((0, 0, 0, 0, 0, 0), 30, False),
            ((0, 1, 24, 0, 0, 0), 30, False),
            ((1, -1, 0, 4, 0, 0), 30, True),
            ((1, -1, 0, 4, 0, 0), 6, True),
            ((1, -1, 0, 4, 0, 0), 5, False),
            ((1, -1, 0, 3, 1, 1), 5, True),
            ((2, -1, 0, 2, 4, 1), 5, True),
            ((2, -1, 0, 3, 3, 1), 5, False),
            ((2, -1, 0, 0, 6, 2), 4, True),
            ((3, -1, 0, 9, 0, 0), 30, False),
            ((3, -1, 0, 0, 9, 1), 30, False),
        ):
            self.assertIs(asks(talk, stand, most=most), told, (stand, most))
        self.assertIs(asks(talk, (0, -1, 0, 0, 0, 0)), True)

    def test_most_left_out_is_thirty(self):
        talk = Talk((20, 10, 1), ((1,), (1,), (1,)))
        self.assertIs(asks(talk, (1, -1, 0, 20, 0, 0)), True)
        self.assertIs(asks(talk, (2, -1, 0, 30, 0, 0)), False)
        self.assertIs(asks(talk, (2, -1, 0, 29, 1, 1)), True)

    def test_as_walks_ask(self):
        for talk, _, _, options, walk in stands_of_walks(22, 30):
            begun = dict(zip(walk.begun, walk.rates))
            for beat, stand in enumerate(walk.stands):
                if beat in begun:
                    ahead = (stand[0], -1, 0) + stand[3:]
                    self.assertIs(asks(talk, ahead, most=options["most"]), True)
                    self.assertEqual(chosen(ahead, begun[beat], wait=options["wait"]), stand)
                self.assertIs(asks(talk, stand, most=options["most"]), False)


class ChosenTest(unittest.TestCase):

    def test_by_hand(self):
        self.assertEqual(chosen((0, -1, 0, 0, 0, 0), 1), (0, 1, 0, 0, 0, 0))
        self.assertEqual(chosen((0, -1, 0, 0, 0, 0), 0, wait=0), (0, 0, 0, 0, 0, 0))
        self.assertEqual(chosen((2, -1, 0, 2, 4, 1), 3, wait=5), (2, 3, -5, 2, 4, 1))
        self.assertEqual(chosen((2, -1, 0, 0, 6, 2), 0, wait=400), (2, 0, -400, 0, 6, 2))

    def test_what_is_handed_in_stays(self):
        stand = (1, -1, 0, 3, 1, 1)
        for _ in range(2):
            self.assertEqual(chosen(stand, 1), (1, 1, 0, 3, 1, 1))
        self.assertEqual(stand, (1, -1, 0, 3, 1, 1))


class GoneTest(unittest.TestCase):

    def assert_gone(self, stand, speed, told, **options):
        self.assertEqual(gone(small(), stand, speed, **options), told)

    def test_what_comes(self):
        self.assert_gone((0, 0, 0, 0, 0, 0), 3, (0, 0, 3, 0, 0, 0))
        self.assert_gone((0, 0, 3, 0, 0, 0), 0, (0, 0, 3, 0, 0, 0))
        self.assert_gone((0, 0, 3, 0, 0, 0), 6, (0, 0, 9, 0, 0, 0))
        self.assert_gone((0, 0, 3, 0, 0, 0), 7, (1, -1, 0, 4, 0, 0))
        self.assert_gone((0, 0, 3, 0, 0, 0), 1000, (1, -1, 0, 4, 0, 0))
        self.assert_gone((0, 1, 24, 0, 0, 0), 1, (1, -1, 0, 4, 0, 0))

    def test_beats_that_go_by_ahead(self):
        self.assert_gone((0, 0, -3, 0, 0, 0), 1000, (0, 0, -2, 0, 0, 0))
        self.assert_gone((0, 0, -1, 0, 0, 0), 1000, (0, 0, 0, 0, 0, 0))
        self.assert_gone((0, 0, 0, 0, 0, 0), 1000, (1, -1, 0, 4, 0, 0))
        self.assert_gone((1, 0, -2, 2, 2, 1), 9, (1, 0, -1, 1, 3, 1))

    def test_play_begins_by_begin(self):
        self.assert_gone((1, 0, 0, 4, 0, 0), 1, (1, 0, 1, 3, 1, 1))
        self.assert_gone((1, 0, 0, 4, 0, 0), 1, (1, 0, 1, 4, 0, 0), begin=5)
        self.assert_gone((1, 0, 0, 4, 0, 0), 1, (1, 0, 1, 3, 1, 1), begin=3, again=400)
        # What becomes whole in this beat is kept behind it, and begins no play in it.
        self.assert_gone((0, 0, 9, 0, 0, 0), 1, (1, -1, 0, 4, 0, 0), begin=1)
        self.assert_gone((1, 0, 5, 4, 0, 0), 1, (2, -1, 0, 6, 0, 0), begin=5)

    def test_play_begins_by_again(self):
        self.assert_gone((2, 0, 0, 2, 4, 2), 1, (2, 0, 1, 2, 4, 2))
        self.assert_gone((2, 0, 0, 2, 4, 2), 1, (2, 0, 1, 1, 5, 1), again=2)
        self.assert_gone((2, 0, 0, 2, 4, 2), 1, (2, 0, 1, 2, 4, 2), again=3, begin=1)
        talk = Talk((8, 1, 1), ((1,), (1,), (5,)))
        self.assertEqual(gone(talk, (2, 0, 0, 8, 1, 2), 1), (2, 0, 1, 7, 2, 1))
        self.assertEqual(gone(talk, (2, 0, 0, 7, 2, 2), 1), (2, 0, 1, 7, 2, 2))

    def test_play_begins_as_all_are_whole(self):
        self.assert_gone((3, -1, 0, 9, 0, 0), 0, (3, -1, 0, 8, 1, 1), begin=400)
        self.assert_gone((3, -1, 0, 1, 8, 2), 0, (3, -1, 0, 0, 9, 1), again=400)
        self.assert_gone((2, 0, 7, 2, 4, 2), 1, (3, -1, 0, 5, 4, 2))

    def test_play_begins_as_the_next_one_has_no_room(self):
        self.assert_gone((1, -1, 0, 4, 0, 0), 0, (1, -1, 0, 3, 1, 1), begin=400, most=5)
        self.assert_gone((2, -1, 0, 2, 4, 2), 0, (2, -1, 0, 1, 5, 1), again=400, most=4)
        # One that is coming is no such one, whether or not there is room.
        self.assert_gone((2, 0, 0, 2, 4, 2), 0, (2, 0, 0, 2, 4, 2), again=400, most=4)
        # One that has room, and isn't there yet, begins no play.
        self.assert_gone((1, -1, 0, 4, 0, 0), 9, (1, -1, 0, 4, 0, 0), begin=5)
        self.assert_gone((1, -1, 0, 4, 0, 0), 9, (1, -1, 0, 4, 0, 0), begin=5, most=6)
        self.assert_gone((2, -1, 0, 2, 4, 2), 9, (2, -1, 0, 2, 4, 2), again=3)

    def test_play_goes_on_whatever_is_kept(self):
        self.assert_gone((1, 0, 0, 1, 3, 1), 1, (1, 0, 1, 0, 4, 1), begin=400, again=400)
        self.assert_gone((1, 0, 0, 3, 1, 1), 1, (1, 0, 1, 2, 2, 1), begin=400, again=400)

    def test_a_stall(self):
        self.assert_gone((1, 0, 0, 0, 4, 1), 1, (1, 0, 1, 0, 4, 2))
        self.assert_gone((1, 0, 5, 0, 4, 1), 1, (2, -1, 0, 2, 4, 2))
        self.assert_gone((1, 0, 5, 0, 4, 1), 1, (2, -1, 0, 2, 4, 2), again=1)
        self.assert_gone((1, 0, 0, 0, 4, 2), 1, (1, 0, 1, 0, 4, 2), again=1)
        self.assert_gone((1, -1, 0, 0, 4, 1), 9, (1, -1, 0, 0, 4, 2))

    def test_the_last_play(self):
        self.assert_gone((3, -1, 0, 1, 8, 1), 0, (3, -1, 0, 0, 9, 1))
        self.assert_gone((3, -1, 0, 2, 7, 1), 1000, (3, -1, 0, 1, 8, 1))

    def test_options_left_out(self):
        talk = Talk((3, 1, 20, 7), ((9,), (9,), (9,), (9,)))
        self.assertEqual(gone(talk, (1, 0, 0, 3, 0, 0), 1), (1, 0, 1, 3, 0, 0))
        self.assertEqual(gone(talk, (2, 0, 0, 4, 0, 0), 1), (2, 0, 1, 3, 1, 1))
        self.assertEqual(gone(talk, (3, 0, 0, 7, 17, 2), 1), (3, 0, 1, 7, 17, 2))
        self.assertEqual(gone(talk, (3, 0, 0, 8, 16, 2), 1), (3, 0, 1, 7, 17, 1))
        self.assertEqual(gone(talk, (3, -1, 0, 23, 1, 2), 1, again=99), (3, -1, 0, 23, 1, 2))
        self.assertEqual(gone(talk, (3, -1, 0, 24, 0, 0), 1, begin=99), (3, -1, 0, 23, 1, 1))

    def test_options_in_any_order(self):
        stand = (2, 0, 0, 2, 4, 2)
        for order in itertools.permutations([("begin", 1), ("again", 2), ("most", 4)]):
            self.assert_gone(stand, 1, (2, 0, 1, 1, 5, 1), **dict(order))
        for order in itertools.permutations([("most", 4), ("wait", 1)]):
            self.assertIs(is_stand(small(), (0, 0, -1, 0, 0, 0), **dict(order)), True)

    def test_each_beat_of_walks(self):
        for talk, road, plan, options, walk in stands_of_walks(23, 60):
            named = {name: options[name] for name in ("begin", "again", "most")}
            begun = dict(zip(walk.begun, walk.rates))
            stand = first_stand()
            for beat, due in enumerate(walk.stands):
                if beat in begun:
                    stand = chosen(stand, begun[beat], wait=options["wait"])
                self.assertEqual(stand, due)
                speed = road.speed_at(beat)
                self.assertEqual(gone(talk, stand, speed, **named), gone(talk, stand, speed, **named))
                stand = gone(talk, stand, speed, **named)
                self.assertEqual(stand[3], walk.kept[beat])
                self.assertIs(is_stand(talk, stand, most=options["most"], wait=options["wait"]), True)
            self.assertEqual(stand[:5], (len(talk.lengths), -1, 0, 0, len(talk)))

    def test_speeds_of_many_figures(self):
        self.assert_gone((0, 0, 3, 0, 0, 0), 10 ** 39, (1, -1, 0, 4, 0, 0))


class NoRoomTest(unittest.TestCase):

    def assert_no_room(self, number, call, *things, **named):
        with self.assertRaises(NoRoom) as caught:
            call(*things, **named)
        self.assertIs(type(caught.exception), NoRoom)
        self.assertEqual(caught.exception.thing, number)
        self.assertIs(type(caught.exception.thing), int)

    def assert_all_refuse(self, number, talk, most):
        named = {"most": most} if most != 30 else {}
        road = Road(((1, 1),))
        plan = (0,) * len(talk.lengths)
        for stand in ((0, -1, 0, 0, 0, 0), (0, 0, 0, 0, 0, 0), (9, 9, 9, 9, 9, 9), (len(plan), -1, 0, 0, len(talk), 1)):
            self.assert_no_room(number, is_stand, talk, stand, **named)
            self.assert_no_room(number, asks, talk, stand, **named)
            self.assert_no_room(number, gone, talk, stand, 1, **named)
        for thing in things_of_any_kind() + [0, "", talk]:
            self.assert_no_room(number, is_stand, talk, thing, wait=3, **named)
        for chooser in (plan, lambda seen: 0):
            self.assert_no_room(number, run_of, talk, road, chooser, **named)
            self.assert_no_room(number, run_of, talk, road, chooser, begin=1, again=1, wait=1, opens=plan, **named)

    def test_the_first_stretch_that_is_longer(self):
        self.assert_all_refuse(0, small(), 1)
        self.assert_all_refuse(0, small(), 2)
        self.assert_all_refuse(0, small(), 3)
        self.assert_all_refuse(1, Talk((2, 5, 4), ((1,), (1,), (1,))), 4)
        self.assert_all_refuse(1, Talk((2, 5, 4), ((1,), (1,), (1,))), 3)
        self.assert_all_refuse(2, Talk((2, 5, 6), ((1,), (1,), (1,))), 5)
        self.assert_all_refuse(1, Talk((30, 31), ((1,), (1,))), 30)

    def test_no_rule_is_asked(self):
        asked = []
        self.assert_no_room(0, run_of, small(), Road(((1, 1),)), lambda seen: asked.append(seen), most=3)
        self.assertEqual(asked, [])

    def test_just_as_long_is_not_refused(self):
        dice = random.Random(9)
        talks = [small()] + [some_talk(dice, dice.randint(1, 5), 2, 20, 9) for _ in range(20)]
        for talk in talks:
            most = max(talk.lengths)
            self.assertIs(is_stand(talk, first_stand(), most=most), True)
            self.assertIs(asks(talk, first_stand(), most=most), True)
            gone(talk, chosen(first_stand(), 0), 1, most=most)
            run = run_of(talk, Road(((1, 1),)), (0,) * len(talk.lengths), most=most)
            self.assertEqual(len(run.plays), len(talk))
            if most > 1:
                self.assert_all_refuse(talk.lengths.index(most), talk, most - 1)


if __name__ == "__main__":
    unittest.main()
