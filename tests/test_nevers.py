"""Whether a chooser ever stalls: papers of all watches, least roads, and too many, against the tests' own watches."""

import itertools
import random
import time
import unittest

from rateplan import nevers
from rateplan.errors import NoRoom, TooMany
from rateplan.neverchecks import never_holds, stalls_holds
from rateplan.nevers import never_stalls
from rateplan.options import LIMIT
from rateplan.roads import known
from rateplan.runs import run_of
from rateplan.talks import Talk
from tests.guards import a_guard, guards_by_hand, some_guards
from tests.machines import Guard, Machine, let


class NeversTest(unittest.TestCase):

    def told(self, guard, **named):
        return never_stalls(guard.talk, guard.chooser, guard.kind, **named, **guard.options)

    def assert_too_many(self, guard, limit, **named):
        with self.assertRaises(TooMany) as caught:
            self.told(guard, limit=limit, **named)
        self.assertIs(type(caught.exception), TooMany)
        self.assertEqual(caught.exception.limit, limit)

    def assert_as_gone_through(self, guard, limit):
        due = guard.told(limit)
        if due == "too many":
            self.assert_too_many(guard, limit)
        else:
            self.assertEqual(self.told(guard, limit=limit), due)
        return due


class ByHandTest(NeversTest):

    def test_defined_here(self):
        self.assertEqual(nevers.never_stalls.__module__, "rateplan.nevers")

    def test_one_stretch(self):
        # Nothing is ahead of the first play but beats of beginning, so one stretch never stalls.
        talk = Talk((2,), ((3,),))
        self.assertEqual(never_stalls(talk, (0,), (1, 2, 1, 2)), ("never", (
            ((0, 0, 0, 0, 0, 0), 0, (), 0, (0,)),
            ((0, 0, 1, 0, 0, 0), 0, (), 1, (1,)),
            ((0, 0, 2, 0, 0, 0), 0, (), 1, (0,)),
            ((1, -1, 0, 1, 1, 1), 0, (3, 2), 0, (0,)),
            ((1, -1, 0, 1, 1, 1), 0, (3, 2), 0, (1,)),
            ((1, -1, 0, 2, 0, 0), 0, (3, 2), 0, (0,)),
            ((1, -1, 0, 2, 0, 0), 0, (3, 2), 0, (1,)),
        )))

    def test_wide_one_has_no_past(self):
        talk = Talk((1, 1), ((2,), (2,)))
        self.assertEqual(never_stalls(talk, (0, 0), (1, 2, 0, 1), begin=1), ("never", (
            ((0, 0, 0, 0, 0, 0), 0, (), 0, ()),
            ((1, 0, 0, 1, 0, 0), 0, (2, 1), 0, ()),
            ((2, -1, 0, 1, 1, 1), 0, (2, 1), 0, ()),
        )))

    def test_a_stall(self):
        talk = Talk((1, 1), ((2,), (2,)))
        # Kept one, the next stretch needs two beats where one of them is slow, and the store is empty in the second.
        self.assertEqual(never_stalls(talk, (0, 0), (1, 2, 1, 2), begin=1), ("stalls", (2, 1, 2)))
        self.assertEqual(never_stalls(talk, (0, 0), (1, 2, 1, 3), begin=1), ("stalls", (2, 1, 2)))
        self.assertEqual(never_stalls(talk, (0, 0), (0, 2, 2, 3), begin=1), ("stalls", (2, 0, 0)))

    def test_wait_counts_in_what_the_last_fetch_took(self):
        talk = Talk((2, 1), ((3,), (1,)))
        self.assertEqual(never_stalls(talk, (0, 0), (2, 3, 0, 1), wait=2, begin=3), ("never", (
            ((0, 0, -2, 0, 0, 0), 0, (), 0, ()),
            ((0, 0, -1, 0, 0, 0), 0, (), 1, ()),
            ((0, 0, 0, 0, 0, 0), 0, (), 2, ()),
            ((1, 0, -2, 2, 0, 0), 0, (3, 3), 0, ()),
            ((1, 0, -1, 2, 0, 0), 0, (3, 3), 1, ()),
            ((1, 0, 0, 2, 0, 0), 0, (3, 3), 2, ()),
            ((2, -1, 0, 1, 2, 1), 0, (1, 3), 0, ()),
            ((2, -1, 0, 2, 1, 1), 0, (1, 3), 0, ()),
            ((2, -1, 0, 3, 0, 0), 0, (1, 3), 0, ()),
        )))

    def test_want_of_room_keeps_the_rate_chosen_last(self):
        talk = Talk((2, 2), ((2, 4), (4, 8)))
        # Where no more than the first one may be kept, all of it is played before the next one is chosen.
        self.assertEqual(never_stalls(talk, (1, 0), (1, 4, 0, 1), most=2), ("stalls", (4, 4, 4, 4)))
        roomy = never_stalls(talk, (1, 0), (1, 4, 0, 1), most=3)
        self.assertEqual(roomy, ("never", (
            ((0, 1, 0, 0, 0, 0), 1, (), 0, ()),
            ((1, -1, 0, 2, 0, 0), 1, (4, 1), 0, ()),
            ((1, 0, 0, 1, 1, 1), 0, (4, 1), 0, ()),
            ((2, -1, 0, 1, 3, 1), 0, (4, 1), 0, ()),
            ((2, -1, 0, 2, 2, 1), 0, (4, 1), 0, ()),
        )))


class AgainstOwnTest(NeversTest):

    def test_small_cases(self):
        dice = random.Random(101)
        told = [self.assert_as_gone_through(guard, 5000)[0] for guard in guards_by_hand() + some_guards(dice, 250)]
        self.assertGreater(told.count("never"), 40)
        self.assertGreater(told.count("stalls"), 40)

    def test_all_limits_of_small_cases(self):
        dice = random.Random(102)
        sorts = set()
        for guard in guards_by_hand() + some_guards(dice, 60, stretches=2, bits=6):
            met = guard.told(5000)
            many = len(met[1]) if met[0] == "never" else 60
            for limit in [*range(min(many, 25)), many - 1, many, many + 1]:
                due = self.assert_as_gone_through(guard, limit)
                sorts.add((met[0], due if due == "too many" else due[0]))
        self.assertEqual(sorts, {(one, other) for one in ("never", "stalls") for other in (one, "too many")})

    def test_least_roads_by_all_roads(self):
        dice = random.Random(103)
        found = 0
        for guard in some_guards(dice, 60, stretches=3, beats=2, bits=6, wide=3):
            verdict, road = self.told(guard, limit=5000)
            long = min(len(road), 9) if verdict == "stalls" else 9
            least = None
            # Ever longer ones, of the same length as tuples rise.
            for many in range(1, long + 1):
                for speeds in itertools.product(guard.kind[:2], repeat=many):
                    if least is None and let(guard.kind, speeds) and guard.stalls(speeds):
                        least = speeds
            if verdict == "stalls" and len(road) <= 9:
                self.assertEqual(road, least)
                found += 1
            else:
                self.assertIsNone(least)
        self.assertGreater(found, 15)

    def test_the_paper_rises_each_once_with_the_first(self):
        dice = random.Random(104)
        for guard in guards_by_hand() + some_guards(dice, 40):
            verdict, paper = self.told(guard, limit=5000)
            self.assertIs(type(paper), tuple)
            if verdict == "never":
                self.assertEqual(list(paper), sorted(set(paper)))
                self.assertIn(guard.first(), paper)
                self.assertTrue(all(guard.is_watch(watch) for watch in paper))
                self.assertEqual(guard.closed([guard.first()]), set(paper))

    def test_eight_stretches(self):
        dice = random.Random(105)
        for guard in some_guards(dice, 25, stretches=8, beats=3, bits=9, wide=3):
            self.assert_as_gone_through(guard, 3000)
        talk = Talk((20,) * 8, ((40, 1000),) * 8)
        for chooser in ((0,) * 8, (0, 1) * 4, lambda seen: 1 if seen[1] > 10 else 0):
            self.assert_as_gone_through(Guard(talk, chooser, (900, 1000, 2, 6), {"most": 400}), 2000)
            self.assert_as_gone_through(Guard(talk, chooser, (8, 9, 1, 2), {"most": 400}), 500)


class LimitTest(NeversTest):

    def test_just_so_many_are_told(self):
        for guard in guards_by_hand():
            due = guard.told()
            self.assertEqual(due[0], "never")
            many = len(due[1])
            self.assertEqual(self.told(guard, limit=many), due)
            self.assertEqual(self.told(guard, limit=many + 1), due)
            self.assert_too_many(guard, many - 1)
            self.assert_too_many(guard, 1)

    def test_the_first_one_counts(self):
        # One watch, and the end behind it.
        guard = Guard(Talk((1, 1), ((1,), (1,))), (0, 0), (1, 2, 0, 1), {"begin": 1})
        self.assertEqual(len(guard.told()[1]), 3)
        self.assert_too_many(guard, 2)
        self.assert_too_many(guard, 0)
        self.assertEqual(self.told(guard, limit=3), guard.told())

    def test_left_out_it_is_two_thousand(self):
        self.assertEqual(LIMIT, 2000)
        # By fast beats alone each beat has one watch, so they are counted out beat by beat.
        for more, refused in ((-1, False), (0, False), (1, True)):
            guard = Guard(Talk((1, 1, 1), ((1000,), (996 + more,), (1,))), (0, 0, 0), (0, 1, 0, 1), {"begin": 3})
            self.assertEqual(len(guard.told(9999)[1]), 2000 + more)
            if refused:
                with self.assertRaises(TooMany) as caught:
                    never_stalls(guard.talk, guard.chooser, guard.kind, begin=3)
                self.assertEqual(caught.exception.limit, 2000)
            else:
                self.assertEqual(never_stalls(guard.talk, guard.chooser, guard.kind, begin=3), guard.told(9999))

    def test_a_stall_ahead_of_one_more_is_told(self):
        dice = random.Random(106)
        edges = 0
        for guard in some_guards(dice, 120, stretches=3, bits=8):
            if guard.told(5000)[0] == "never":
                continue
            limit = 1
            while guard.told(limit) == "too many":
                limit += 1
            edges += limit > 1
            self.assertEqual(self.told(guard, limit=limit), guard.told(5000))
            if limit > 1:
                self.assert_too_many(guard, limit - 1)
        self.assertGreater(edges, 30)

    def test_slow_ahead_of_fast(self):
        # From the first watch slow comes to a new one; by fast alone the talk would soon stall.
        talk = Talk((1, 1), ((2,), (9,)))
        guard = Guard(talk, (0, 0), (1, 2, 1, 2), {"begin": 1})
        self.assert_too_many(guard, 1)
        self.assert_as_gone_through(guard, 2)
        self.assert_as_gone_through(guard, 3)
        self.assert_as_gone_through(guard, 4)

    def test_five_thousand_in_good_time(self):
        talk = Talk((20,) * 8, tuple((500, 1000) for _ in range(8)))
        begun = time.process_time()
        self.assert_too_many(Guard(talk, lambda seen: seen[1] % 2, (1, 2, 3, 6), {"most": 400, "wait": 400}), 5000)
        self.assertLess(time.process_time() - begun, 10)


class PromiseTest(NeversTest):

    def test_no_road_of_the_kind_stalls_what_a_paper_lets_by(self):
        dice = random.Random(107)
        for guard in guards_by_hand() + some_guards(dice, 40):
            verdict, _ = self.told(guard, limit=5000)
            slow, fast, _, _ = guard.kind
            for _ in range(10):
                road = []
                while len(road) < 80:
                    road.append(slow if let(guard.kind, (*road[-6:], slow)) and dice.random() < 0.7 else fast)
                run = run_of(guard.talk, known((*road, fast)), guard.chooser, **guard.options)
                if verdict == "never" and run.ended <= 80:
                    self.assertEqual(run.stalls, ())

    def test_a_run_over_the_told_road_stalls_first_in_its_last_beat(self):
        dice = random.Random(108)
        for guard in some_guards(dice, 80):
            verdict, road = self.told(guard, limit=5000)
            if verdict == "stalls":
                run = run_of(guard.talk, known((*road, guard.kind[1])), guard.chooser, **guard.options)
                self.assertEqual(run.stalls[0][0], len(road) - 1)

    def test_the_checks_let_by_what_is_told(self):
        dice = random.Random(109)
        for guard in guards_by_hand() + some_guards(dice, 60):
            verdict, told = self.told(guard, limit=5000)
            named = (guard.talk, guard.chooser, guard.kind, told)
            self.assertIs(never_holds(*named, **guard.options), verdict == "never")
            self.assertIs(stalls_holds(*named, **guard.options), verdict == "stalls")

    def test_told_again_the_same_and_nothing_is_changed(self):
        for guard in guards_by_hand():
            before = (repr(guard.talk), guard.kind)
            self.assertEqual(self.told(guard), self.told(guard))
            self.assertEqual((repr(guard.talk), guard.kind), before)


class OptionsTest(NeversTest):

    def test_left_out(self):
        dice = random.Random(110)
        for guard in some_guards(dice, 60, beats=6):
            bare = Guard(guard.talk, guard.chooser, guard.kind)
            due = bare.told()
            if due == "too many":
                self.assertRaises(TooMany, self.told, bare)
            else:
                self.assertEqual(self.told(bare), due)
                named = {"wait": 0, "most": 30, "limit": 2000, "again": 8, "begin": 4}
                self.assertEqual(never_stalls(guard.talk, guard.chooser, guard.kind, **named), due)

    def test_in_any_order(self):
        guard = Guard(Talk((3, 2), ((4, 9), (3, 7))), (0, 1), (1, 3, 1, 3))
        named = {"begin": 2, "again": 3, "most": 4, "wait": 1, "limit": 300}
        guard.options = {name: named[name] for name in ("begin", "again", "most", "wait")}
        for order in itertools.permutations(named.items()):
            self.assertEqual(never_stalls(guard.talk, guard.chooser, guard.kind, **dict(order)), guard.told(300))

    def test_a_rule_is_shown_the_last_fetch_as_a_speed(self):
        seen = []

        def rule(shown):
            seen.append(shown[:3] + (None if shown[3] is None else (type(shown[3]).__name__, shown[3].bits, shown[3].beats),))
            return 1
        never_stalls(Talk((2, 1), ((3, 6), (1, 2))), rule, (2, 3, 0, 1), wait=2, begin=3)
        self.assertEqual(seen[0], (0, 0, None, None))
        self.assertEqual(set(seen[1:]), {(1, 2, 1, ("Speed", 6, 4))})


class NoRoomTest(NeversTest):

    def test_ahead_of_all_else(self):
        def no_one(seen):
            raise AssertionError("nothing is asked")
        for lengths, most, number in (((4, 2), 3, 0), ((2, 4), 3, 1), ((2, 4, 5), 3, 1), ((30, 31), 30, 1), ((31,), 30, 0)):
            talk = Talk(lengths, ((1, 2),) * len(lengths))
            named = {} if most == 30 else {"most": most}
            for limit in (0, 1, 2000):
                with self.assertRaises(NoRoom) as caught:
                    never_stalls(talk, no_one, (0, 1, 0, 1), limit=limit, **named)
                self.assertIs(type(caught.exception), NoRoom)
                self.assertEqual(caught.exception.thing, number)

    def test_just_as_long_is_not_refused(self):
        self.assertEqual(never_stalls(Talk((4,), ((1,),)), (0,), (0, 1, 0, 1), most=4)[0], "never")


class MachineTest(unittest.TestCase):

    def test_the_tests_own_machine_is_as_their_walk(self):
        # Two hands that were written apart tell the same, so the cases above rest on both.
        from tests.walks import Walk, some_walks, speeds_of
        for talk, road, plan, options in some_walks(111, 100):
            walk, machine = Walk(talk, road, plan, **options), Machine(talk, **options)
            for at, speed in enumerate(speeds_of(road, walk.ended)):
                if machine.asks():
                    machine.choose(machine.told(plan))
                self.assertEqual(machine.stand(), walk.stands[at])
                machine.beat(speed)
            self.assertTrue(machine.ended())
            self.assertEqual(machine.played, list(zip(walk.plays, range(len(talk)))))

    def test_by_hand(self):
        self.assertEqual(a_guard().told()[0], "never")


if __name__ == "__main__":
    unittest.main()
