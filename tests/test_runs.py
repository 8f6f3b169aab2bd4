"""Runs: what they tell of plans, rules and live talks, against walks of the tests' own."""

import itertools
import random
import unittest

from rateplan import runs
from rateplan.roads import Road, known
from rateplan.runs import Run, run_of
from rateplan.speeds import Speed
from rateplan.talks import Talk
from tests.samples import things_of_any_kind
from tests.walks import Walk, some_options, some_plan, some_road, some_talk, some_walks

FIELDS = ("rates", "begun", "whole", "plays", "stalls", "ended", "kept")


def fields_of(run):
    return {name: getattr(run, name) for name in FIELDS}


def small():
    return Talk((4, 2), ((10, 25), (6, 12)))


def small_road():
    return Road(((3, 2), (1, 5)))


class Asked:
    """A rule that keeps what it was shown, and tells what a function of that tells."""

    def __init__(self, tell):
        self.tell = tell
        self.seen = []

    def __call__(self, seen):
        self.seen.append(seen)
        return self.tell(seen)


def shown(seen):
    """What a rule was shown, the speed by its fields."""
    return seen[:3] + (None if seen[3] is None else (seen[3].bits, seen[3].beats),)


class RunsTest(unittest.TestCase):

    def assert_as_walked(self, talk, road, chooser, **options):
        run = run_of(talk, road, chooser, **options)
        walk = Walk(talk, road, chooser, **options)
        self.assertEqual(fields_of(run), walk.fields(), (talk, str(road), chooser, options))
        return run, walk


class RunTest(RunsTest):

    def a_run(self):
        return run_of(small(), small_road(), (1, 0))

    def test_fields_and_their_kinds(self):
        run = self.a_run()
        self.assertEqual(fields_of(run), {
            "rates": (1, 0), "begun": (0, 7), "whole": (7, 9), "plays": (7, 8, 9, 10, 11, 12), "stalls": (),
            "ended": 13, "kept": (0, 0, 0, 0, 0, 0, 4, 3, 4, 3, 2, 1, 0),
        })
        self.assertEqual(set(vars(run)), set(FIELDS))
        for name in FIELDS:
            self.assertIs(type(getattr(run, name)), int if name == "ended" else tuple)

    def test_interface_stands_here(self):
        self.assertEqual(Run.__module__, "rateplan.runs")
        self.assertEqual(runs.run_of.__module__, "rateplan.runs")
        for name in ("__init__", "__len__", "__eq__"):
            self.assertIn(name, vars(Run))

    def test_len_is_its_beats(self):
        self.assertEqual(len(self.a_run()), 13)
        for talk, road, plan, options in some_walks(31, 30):
            run = run_of(talk, road, plan, **options)
            self.assertEqual(len(run), run.ended)
            self.assertEqual(len(run), len(run.kept))
            self.assertEqual(len(run), run.plays[-1] + 1)

    def test_equal_by_the_fields(self):
        one, other = self.a_run(), self.a_run()
        self.assertIsNot(one, other)
        self.assertIs(one == other, True)
        self.assertIs(one != other, False)
        for name in FIELDS:
            other = self.a_run()
            setattr(other, name, 99 if name == "ended" else getattr(other, name) + (99,))
            self.assertIs(one == other, False)
            self.assertIs(other == one, False)
            self.assertIs(one != other, True)

    def test_other_talks_of_the_same_run_are_equal(self):
        # A last speed that is never come to, and bits that come in the same beats.
        self.assertTrue(self.a_run() == run_of(Talk((4, 2), ((9, 24), (10, 1))), small_road(), (1, 0)))
        self.assertFalse(self.a_run() == run_of(small(), small_road(), (0, 0)))

    def test_nothing_else_is_equal(self):
        run = self.a_run()

        class LikeARun:
            def __init__(self):
                for name in FIELDS:
                    setattr(self, name, getattr(run, name))

        others = things_of_any_kind() + [0, 13, "", tuple(fields_of(run).values()), fields_of(run), LikeARun(), Run]
        for other in others:
            self.assertIs(run == other, False)
            self.assertIs(other == run, False)
            self.assertIs(run != other, True)
            self.assertIs(other != run, True)

    def test_two_objects_share_nothing(self):
        one, other = self.a_run(), self.a_run()
        for name in FIELDS:
            setattr(one, name, None)
        self.assertEqual(other, self.a_run())


class PlansTest(RunsTest):

    def test_a_stall_by_hand(self):
        talk = Talk((2, 2, 2), ((2, 4), (2, 9), (2, 4)))
        run = run_of(talk, Road(((1, 1),)), (0, 1, 0), begin=1, again=3)
        self.assertEqual(fields_of(run), {
            "rates": (0, 1, 0), "begun": (0, 2, 11), "whole": (2, 11, 13), "plays": (2, 3, 13, 14, 15, 16),
            "stalls": ((4, 9),), "ended": 17, "kept": (0, 2, 1, 0, 0, 0, 0, 0, 0, 0, 2, 2, 4, 3, 2, 1, 0),
        })

    def test_stalls_beside_each_other_by_one_play(self):
        talk = Talk((1, 1, 1), ((2,), (2,), (2,)))
        run = run_of(talk, Road(((1, 1),)), (0, 0, 0), begin=1, again=1)
        self.assertEqual(run.plays, (2, 4, 6))
        self.assertEqual(run.stalls, ((3, 1), (5, 1)))

    def test_want_of_room_by_hand(self):
        talk = Talk((3, 2, 2), ((3,), (2,), (2,)))
        run = run_of(talk, Road(((1, 1),)), (0, 0, 0), begin=400, again=400, most=4)
        # The second one has room from the beat on ahead of which two are kept, the third as soon as that is whole.
        self.assertEqual(run.begun, (0, 4, 6))
        self.assertEqual(run.whole, (3, 6, 8))
        self.assertEqual(run.plays, (3, 4, 5, 6, 7, 8, 9))
        self.assertEqual(run.stalls, ())
        self.assertEqual(run.kept, (0, 0, 3, 2, 1, 2, 1, 2, 1, 0))

    def test_beats_that_go_by_count_from_the_choice(self):
        run = run_of(small(), Road(((1, 100),)), (0, 0), wait=3)
        self.assertEqual(run.begun, (0, 4))
        self.assertEqual(run.whole, (4, 8))

    def test_options_left_out(self):
        dice = random.Random(33)
        for _ in range(60):
            talk, road = some_talk(dice, dice.randint(1, 6), 2, 20, 60), some_road(dice, 6, 20, 9)
            plan = some_plan(dice, talk)
            run, _ = self.assert_as_walked(talk, road, plan)
            self.assertEqual(run, run_of(talk, road, plan, wait=0, most=30, again=8, begin=4, opens=None))

    def test_options_in_any_order(self):
        talk, road, plan, options = some_walks(34, 1)[0]
        due = fields_of(run_of(talk, road, plan, **options))
        for order in itertools.permutations(list(options.items()) + [("opens", None)]):
            self.assertEqual(fields_of(run_of(talk, road, plan, **dict(order))), due)

    def test_against_walks(self):
        for talk, road, plan, options in some_walks(35, 400):
            self.assert_as_walked(talk, road, plan, **options)

    def test_all_plans_of_small_talks(self):
        dice = random.Random(36)
        for _ in range(25):
            talk, road = some_talk(dice, 3, 3, 4, 9), some_road(dice, 4, 4, 4)
            options = some_options(dice, talk, 6)
            for plan in itertools.product(range(3), repeat=3):
                self.assert_as_walked(talk, road, plan, **options)

    def test_the_promise(self):
        for talk, road, plan, options in some_walks(37, 150):
            run = run_of(talk, road, plan, **options)
            walk = Walk(talk, road, plan, **options)
            # Each beat once, in order; what was fetched is what was played and is kept.
            self.assertEqual(walk.played, list(range(len(talk))))
            self.assertEqual(len(run.plays), len(talk))
            self.assertEqual(sorted(set(run.plays)), list(run.plays))
            stalled = {beat for first, many in run.stalls for beat in range(first, first + many)}
            for beat, kept in enumerate(run.kept):
                done = sum(1 for whole in run.whole if whole <= beat + 1)
                played = sum(1 for play in run.plays if play <= beat)
                self.assertEqual(sum(talk.lengths[:done]), played + kept)
                self.assertTrue(0 <= kept <= options["most"])
                self.assertEqual(beat not in run.plays, beat < run.plays[0] or beat in stalled)
                self.assertFalse(beat in run.plays and beat in stalled)
            for number in range(len(talk.lengths)):
                begun, whole = run.begun[number], run.whole[number]
                self.assertEqual(whole, road.fetched(begun, talk.sizes[number][plan[number]], wait=options["wait"]))
                self.assertTrue(number == 0 or run.whole[number - 1] <= begun)

    def test_the_bounds(self):
        dice = random.Random(38)
        talk = Talk((20,) * 12, tuple((1, 10, 100, 1000) for _ in range(12)))
        slow = Road(((50, 0), (50, 3)) * 5 + ((50, 7), (50, 1)))
        for begin, again, most, wait in ((400, 400, 400, 0), (1, 1, 20, 0), (400, 400, 400, 400), (4, 8, 30, 7)):
            options = {"begin": begin, "again": again, "most": most, "wait": wait}
            for plan in ((3,) * 12, (0,) * 12, some_plan(dice, talk)):
                self.assert_as_walked(talk, slow, plan, **options)
        # Ahead of each fetch but the first one ten beats are played, till there is room.
        self.assertEqual(len(run_of(talk, Road(((1, 1),)), (3,) * 12)), 12000 + 11 * 10 + 20)

    def test_roads_told_beat_by_beat(self):
        dice = random.Random(39)
        speeds = tuple(dice.randint(0, 2) for _ in range(599)) + (1,)
        for talk, _, plan, options in some_walks(40, 20):
            run, _ = self.assert_as_walked(talk, known(speeds), plan, **options)
            later = run_of(talk, known(speeds).behind(0), plan, **options)
            self.assertEqual(run, later)

    def test_the_same_is_told_the_same_and_nothing_is_changed(self):
        for talk, road, plan, options in some_walks(41, 20):
            before = (repr(talk), road.pieces, plan, dict(options))
            one = run_of(talk, road, plan, **options)
            other = run_of(talk, road, plan, **options)
            self.assertEqual(one, other)
            self.assertIsNot(one, other)
            self.assertEqual((repr(talk), road.pieces, plan, options), before)


class RulesTest(RunsTest):

    def test_what_a_rule_is_shown_by_hand(self):
        talk = Talk((4, 2, 2), ((10, 25), (6, 12), (3, 9)))
        rule = Asked(lambda seen: 1 - seen[0] % 2)
        run = run_of(talk, small_road(), rule, wait=2)
        self.assertEqual(run.rates, (1, 0, 1))
        self.assertEqual([shown(seen) for seen in rule.seen], [
            (0, 0, None, None),
            (1, 4, 1, (25, 8)),
            (2, 2, 0, (6, 4)),
        ])
        for seen in rule.seen:
            self.assertIs(type(seen), tuple)
            self.assertEqual([type(part) for part in seen[:2]], [int, int])
        self.assertIs(type(rule.seen[1][3]), Speed)

    def test_a_speed_is_as_written_and_not_in_lowest_terms(self):
        rule = Asked(lambda seen: 0)
        run_of(Talk((2, 2), ((4,), (4,))), Road(((1, 2),)), rule)
        self.assertEqual(shown(rule.seen[1]), (1, 2, 0, (4, 2)))

    def test_each_stretch_is_asked_once(self):
        for talk, road, _, options in some_walks(42, 60):
            rule = Asked(lambda seen: seen[1])
            run_of(talk, road, rule, **options)
            self.assertEqual([seen[0] for seen in rule.seen], list(range(len(talk.lengths))))

    def test_against_walks(self):
        tells = (
            lambda seen: 0,
            lambda seen: seen[0],
            lambda seen: seen[1] // 3,
            lambda seen: 0 if seen[2] is None else (seen[2] + 1) % 3,
            lambda seen: 1 if seen[3] is None else seen[3].floor() % 4,
            lambda seen: seen[1] - seen[0],
        )
        for at, (talk, road, _, options) in enumerate(some_walks(43, 240)):
            tell = tells[at % len(tells)]
            rule = Asked(tell)
            run, walk = self.assert_as_walked(talk, road, rule, **options)
            self.assertEqual([shown(seen) for seen in rule.seen[:len(talk.lengths)]], walk.seen)
            self.assertEqual(run, run_of(talk, road, tell, **options))
            # The plan of what was chosen does the same.
            self.assertEqual(run, run_of(talk, road, run.rates, **options))

    def test_anything_else_than_a_rate_is_rate_nought(self):
        talk = Talk((4, 2), ((10, 25, 30), (6, 12, 40)))
        for rate in range(3):
            self.assertEqual(run_of(talk, small_road(), lambda seen: rate).rates, (rate, rate))
        things = things_of_any_kind() + [
            -1, 3, 4, 10 ** 39, -10 ** 39, True, False, None, "", "1", "rate", (1,), [1], Speed(1, 1), (), 1 == 1,
        ]
        for thing in things:
            self.assertEqual(run_of(talk, small_road(), lambda seen: thing).rates, (0, 0))
            mixed = run_of(talk, small_road(), lambda seen: 2 if seen[0] == 0 else thing)
            self.assertEqual(mixed.rates, (2, 0))

    def test_a_rule_sees_what_was_taken_for_what_it_told(self):
        rule = Asked(lambda seen: "no rate")
        run_of(small(), small_road(), rule)
        self.assertEqual(rule.seen[1][2], 0)
        self.assertEqual(shown(rule.seen[1])[3], (10, 4))
        rule = Asked(lambda seen: True)
        run_of(small(), small_road(), rule)
        self.assertEqual(rule.seen[1][2], 0)

    def test_rates_are_numbers(self):
        for run in (run_of(small(), small_road(), lambda seen: True), run_of(small(), small_road(), lambda seen: 1)):
            self.assertEqual([type(rate) for rate in run.rates], [int, int])


class LiveTest(RunsTest):

    def test_a_stretch_that_is_not_there_yet_begins_no_play(self):
        talk = Talk((2, 2), ((2,), (2,)))
        run = run_of(talk, Road(((1, 1),)), (0, 0), opens=(0, 10))
        self.assertEqual(run.begun, (0, 10))
        self.assertEqual(run.whole, (2, 12))
        self.assertEqual(run.plays, (12, 13, 14, 15))
        self.assertEqual(run.stalls, ())

    def test_want_of_room_begins_play_there_or_not(self):
        talk = Talk((2, 2), ((2,), (2,)))
        run = run_of(talk, Road(((1, 1),)), (0, 0), most=3, opens=(0, 10))
        self.assertEqual(run.plays, (2, 3, 12, 13))
        self.assertEqual(run.stalls, ((4, 8),))
        there = run_of(talk, Road(((1, 1),)), (0, 0), most=3, opens=(0, 0))
        self.assertEqual(there.plays, (2, 3, 5, 6))
        self.assertEqual(there.begun, (0, 3))

    def test_the_first_one_later(self):
        run = run_of(small(), small_road(), (0, 0), opens=(5, 5))
        self.assertEqual(run.begun, (5, 7))
        self.assertEqual(run.kept[:5], (0, 0, 0, 0, 0))
        self.assertEqual(run.plays[0], 7)

    def test_from_its_beat_on(self):
        talk = Talk((1, 1), ((3,), (3,)))
        for opened, begun in ((2, 3), (3, 3), (4, 4), (5, 5)):
            self.assertEqual(run_of(talk, Road(((1, 1),)), (0, 0), opens=(0, opened)).begun, (0, begun))

    def test_beats_till_it_is_there_are_not_of_its_fetch(self):
        rule = Asked(lambda seen: 0)
        run_of(Talk((1, 1, 1), ((3,), (3,), (3,))), Road(((1, 1),)), rule, wait=1, opens=(7, 20, 30))
        self.assertEqual([shown(seen) for seen in rule.seen], [(0, 0, None, None), (1, 1, 0, (3, 4)), (2, 2, 0, (3, 4))])

    def test_against_walks(self):
        dice = random.Random(45)
        for talk, road, plan, options in some_walks(44, 300):
            opens = tuple(sorted(dice.randint(0, dice.choice((5, 40, 150))) for _ in talk.lengths))
            self.assert_as_walked(talk, road, plan, opens=opens, **options)
            rule = Asked(lambda seen: seen[1] % 3)
            self.assert_as_walked(talk, road, rule, opens=opens, **options)
            self.assertEqual(len(rule.seen), 2 * len(talk.lengths))

    def test_all_there_from_the_first_beat_is_as_no_live_talk(self):
        for talk, road, plan, options in some_walks(46, 40):
            due = run_of(talk, road, plan, **options)
            self.assertEqual(run_of(talk, road, plan, opens=(0,) * len(plan), **options), due)
            self.assertEqual(run_of(talk, road, plan, opens=due.begun, **options), due)
            self.assertEqual(run_of(talk, road, plan, opens=None, **options), due)

    def test_what_was_told_is_handed_in_again(self):
        talk = Talk((20,) * 12, ((1000,),) * 12)
        road = Road(((1, 1),))
        first = run_of(talk, road, (0,) * 12)
        run, _ = self.assert_as_walked(talk, road, first.rates, opens=first.plays[-12:])
        self.assertGreaterEqual(run.begun[0], 12008)


if __name__ == "__main__":
    unittest.main()
