"""Checks of papers of watches and of roads that stall: what right ones are, and that nothing else is one."""

import random
import time
import unittest

from rateplan import neverchecks
from rateplan.errors import NoRoom
from rateplan.neverchecks import never_holds, stalls_holds
from rateplan.nevers import never_stalls
from rateplan.talks import Talk
from tests.guards import a_guard, guards_by_hand, some_guards, some_watches
from tests.machines import Guard, let
from tests.samples import changed_parts, deep_list, things_of_any_kind


def paper_of(watches):
    return tuple(sorted(watches))


def things():
    """Things of other kinds, deep and great ones among them."""
    deep = ()
    for _ in range(29):
        deep = (deep,)
    return things_of_any_kind() + [
        0, 1, -1, 10 ** 39, "", "never", "x" * 4000, deep, deep_list(), ((),), ((), ()), (deep, deep), (None,), ("",),
        ((0, 0, 0, 0, 0, 0),), tuple(range(20000)), {(): ()}, never_holds, ((1,) * 5,), ((deep,) * 5,),
        (((0, 0, 0, 0, 0, 0), 0, (), 0),), (((0, 0, 0, 0, 0, 0), deep, deep, deep, deep),),
    ]


class ChecksTest(unittest.TestCase):

    def assert_paper(self, told, guard, thing):
        self.assertIs(never_holds(guard.talk, guard.chooser, guard.kind, thing, **guard.options), told, thing)

    def assert_road(self, told, guard, thing):
        self.assertIs(stalls_holds(guard.talk, guard.chooser, guard.kind, thing, **guard.options), told, thing)

    def assert_paper_as_checked(self, guard, thing):
        self.assert_paper(guard.holds(thing), guard, thing)

    def nevers(self, seed, many, **named):
        """Those cases, of so many, that never stall by few watches, and their papers."""
        told = [(guard, guard.told(60)) for guard in guards_by_hand() + some_guards(random.Random(seed), many, **named)]
        return [(guard, pair[1]) for guard, pair in told if pair[0] == "never"]

    def stalls(self, seed, many, **named):
        """Those cases, of so many, that stall, and their least roads."""
        told = [(guard, guard.told(3000)) for guard in some_guards(random.Random(seed), many, **named)]
        return [(guard, pair[1]) for guard, pair in told if pair[0] == "stalls"]


class RightPapersTest(ChecksTest):

    def test_defined_here(self):
        self.assertEqual(neverchecks.never_holds.__module__, "rateplan.neverchecks")
        self.assertEqual(neverchecks.stalls_holds.__module__, "rateplan.neverchecks")

    def test_by_hand(self):
        guard = Guard(Talk((1, 1), ((2,), (2,))), (0, 0), (1, 2, 0, 1), {"begin": 1})
        paper = (
            ((0, 0, 0, 0, 0, 0), 0, (), 0, ()),
            ((1, 0, 0, 1, 0, 0), 0, (2, 1), 0, ()),
            ((2, -1, 0, 1, 1, 1), 0, (2, 1), 0, ()),
        )
        self.assert_paper(True, guard, paper)
        for at in range(3):
            self.assert_paper(False, guard, paper[:at] + paper[at + 1:])
        # The same beats, but of a fetch that no road brings, and what it leads to.
        more = (((1, 0, 0, 1, 0, 0), 0, (7, 9), 0, ()), ((1, 0, 1, 1, 0, 0), 0, (2, 1), 5, ()), ((2, -1, 0, 1, 1, 1), 0, (2, 6), 0, ()))
        self.assert_paper(True, guard, paper_of(paper + more))
        self.assert_paper(False, guard, paper_of(paper + more[:2]))

    def test_the_told_papers(self):
        for guard, paper in self.nevers(121, 150):
            self.assert_paper(True, guard, paper)
            self.assertEqual(never_stalls(guard.talk, guard.chooser, guard.kind, **guard.options), ("never", paper))

    def test_with_watches_that_no_road_comes_to(self):
        dice = random.Random(122)
        more = 0
        for guard, paper in self.nevers(123, 100):
            for watch in some_watches(dice, guard, 6):
                closed = guard.closed([watch])
                if closed is None or len(closed) > 200:
                    self.assert_paper_as_checked(guard, paper_of({*paper, watch}))
                    continue
                if not all(guard.is_watch(each) for each in closed):
                    # What is coming had no room, so more is kept behind it than may be.
                    self.assert_paper(False, guard, paper_of({*paper, *closed}))
                    continue
                more += len(closed - set(paper)) > 1
                self.assert_paper(True, guard, paper_of({*paper, *closed}))
                for each in closed - set(paper):
                    self.assert_paper_as_checked(guard, paper_of({*paper, *closed} - {each}))
        self.assertGreater(more, 40)

    def test_what_a_watch_leads_to_is_asked_for(self):
        dice = random.Random(124)
        asked = 0
        for guard, paper in self.nevers(125, 60):
            for watch in some_watches(dice, guard, 4):
                led = [guard.led(watch, speed) for speed in guard.kind[:2]]
                if watch not in paper and [each for each in led if each not in (None, "end") and each not in paper]:
                    self.assert_paper(False, guard, paper_of({*paper, watch}))
                    asked += 1
        self.assertGreater(asked, 40)

    def test_a_watch_may_be_in_a_stall(self):
        # It holds where each beat let from there is of no stall: enough is kept, or all is whole.
        talk = Talk((3, 2), ((4,), (3,)))
        guard = Guard(talk, (0, 0), (3, 9, 0, 2), {"begin": 3, "again": 2})
        paper = guard.told()[1]
        for stand, holds in (
            ((1, 0, 0, 2, 1, 2), True), ((2, -1, 0, 1, 4, 2), True), ((1, 0, 0, 1, 2, 2), False), ((1, 0, 2, 0, 3, 2), False),
        ):
            watch = (stand, 0, (4, 2), 0, (0,))
            self.assertIs(guard.is_watch(watch), True)
            closed = guard.closed([watch])
            self.assertIs(closed is not None, holds)
            self.assert_paper(holds, guard, paper_of({*paper, *(closed or [watch])}))

    def test_a_watch_that_leads_to_a_beat_of_a_stall(self):
        for guard, paper in self.nevers(126, 100):
            for watch in some_watches(random.Random(127), guard, 8):
                if "stall" in [guard.led(watch, speed) for speed in guard.kind[:2]]:
                    self.assert_paper(False, guard, paper_of({*paper, watch}))

    def test_a_beat_of_a_stall_that_leads_to_what_is_there(self):
        talk = Talk((3, 2), ((4,), (3,)))
        guard = Guard(talk, (0, 0), (3, 9, 0, 2), {"begin": 3, "again": 2})
        paper = guard.told()[1]
        behind = ((2, -1, 0, 2, 3, 2), 0, (3, 1), 0, (0,))
        self.assert_paper(True, guard, paper_of({*paper, *guard.closed([behind])}))
        for going in (1, 2):
            # What is coming is whole behind this beat, and all is played from there on; but in this beat nothing is.
            watch = ((1, 0, 2, 0, 3, going), 0, (4, 2), 0, (0,))
            self.assertEqual(guard.led(watch, 9), "stall")
            self.assert_paper(False, guard, paper_of({*paper, watch, *guard.closed([behind])}))

    def test_what_slow_leads_to_is_not_asked_where_it_is_not_let(self):
        talk = Talk((2,), ((9,),))
        guard = Guard(talk, (0,), (1, 5, 1, 2), {})
        paper = guard.told()[1]
        watch = ((0, 0, 3, 0, 0, 0), 0, (), 0, (1,))
        by_fast = guard.closed([guard.led(watch, 5)])
        self.assertIsNone(guard.led(watch, 1))
        self.assert_paper(True, guard, paper_of({*paper, watch, *by_fast}))
        other = (*watch[:4], (0,))
        self.assert_paper(False, guard, paper_of({*paper, other, *guard.closed([guard.led(other, 5)])} - {guard.led(other, 1)}))

    def test_what_is_handed_in_stays(self):
        for guard, paper in self.nevers(128, 10):
            before = (repr(paper), repr(guard.talk), guard.kind)
            self.assert_paper(True, guard, paper)
            self.assert_paper(True, guard, paper)
            self.assertEqual((repr(paper), repr(guard.talk), guard.kind), before)


class WrongPapersTest(ChecksTest):

    def test_one_left_out_twice_or_exchanged(self):
        for guard, paper in self.nevers(131, 30):
            for at, watch in enumerate(paper):
                self.assert_paper(False, guard, paper[:at] + paper[at + 1:])
                self.assert_paper(False, guard, paper[:at] + (watch,) + paper[at:])
                for other in range(at):
                    changed = list(paper)
                    changed[at], changed[other] = paper[other], watch
                    self.assert_paper(False, guard, tuple(changed))

    def test_the_first_one_lacking(self):
        for guard, paper in self.nevers(132, 30):
            self.assert_paper(False, guard, ())
            later = guard.closed([watch for watch in paper if watch != guard.first()])
            if guard.first() not in later:
                self.assert_paper(False, guard, paper_of(later))

    def test_each_number_put_otherwise(self):
        def numbers_changed(thing):
            if type(thing) is int:
                return [thing - 1, thing + 1, -thing - 1, thing + 10 ** 39]
            return [thing[:at] + (other,) + thing[at + 1:] for at, part in enumerate(thing) for other in numbers_changed(part)]
        for guard, paper in self.nevers(133, 12):
            for watch in paper:
                for changed in numbers_changed(watch):
                    self.assert_paper_as_checked(guard, paper_of({*paper, changed} - {watch}))
                    self.assert_paper_as_checked(guard, paper_of({*paper, changed}))

    def test_parts_of_other_kinds(self):
        for guard, paper in self.nevers(134, 12):
            for at, watch in enumerate(paper):
                for changed in changed_parts(watch):
                    self.assert_paper(False, guard, paper[:at] + (changed,) + paper[at + 1:])

    def test_lists_in_place_of_tuples(self):
        for guard, paper in self.nevers(135, 5):
            for changed in (list(paper), dict.fromkeys(paper), [list(watch) for watch in paper], set(paper), paper + ((),)):
                self.assert_paper(False, guard, changed)

    def test_watches_that_are_none(self):
        talk = Talk((4, 2, 3), ((10, 25), (6, 12), (8, 9)))
        guard = Guard(talk, (0, 0, 0), (4, 9, 1, 3), {"begin": 5, "most": 7, "wait": 2})
        paper = guard.told()[1]
        self.assert_paper(True, guard, paper)
        # Most are one beat ahead of the end, or stand beside what they lead to, so all else is right.
        for watch in (
            ((0, -1, 0, 0, 0, 0), 0, (), 0, (0, 0)),             # it asks
            ((1, -1, 0, 4, 0, 0), 0, (10, 3), 0, (0, 0)),        # it asks, there being room
            ((3, -1, 0, 0, 9, 1), 0, (8, 3), 0, (0, 0)),         # it is ended
            ((3, -1, 0, 1, 8, 1), 2, (8, 3), 0, (0, 0)),         # its rate is none
            ((3, -1, 0, 1, 8, 1), -1, (8, 3), 0, (0, 0)),
            ((2, 0, 0, 1, 5, 1), 1, (8, 3), 0, (0, 0)),          # it isn't that of what is coming
            ((0, 0, 0, 0, 0, 0), 0, (1, 1), 2, (0, 0)),          # a fetch, but none is whole
            ((3, -1, 0, 1, 8, 1), 0, (), 0, (0, 0)),             # none, but one is
            ((3, -1, 0, 1, 8, 1), 0, (0, 3), 0, (0, 0)),
            ((3, -1, 0, 1, 8, 1), 0, (8, 0), 0, (0, 0)),
            ((3, -1, 0, 1, 8, 1), 0, (8,), 0, (0, 0)),
            ((3, -1, 0, 1, 8, 1), 0, (8, 3, 1), 0, (0, 0)),
            ((3, -1, 0, 1, 8, 1), 0, (8, 3), 1, (0, 0)),         # gone, but nothing is coming
            ((2, 0, 7, 1, 5, 1), 0, (8, 3), -1, (0, 0)),
            ((2, 0, -2, 5, 1, 1), 0, (8, 3), -1, (0, 0)),
            ((3, -1, 0, 1, 8, 1), 0, (8, 3), 0, (0,)),           # past is too short, too long, of too many slow ones
            ((3, -1, 0, 1, 8, 1), 0, (8, 3), 0, (0, 0, 0)),
            ((3, -1, 0, 1, 8, 1), 0, (8, 3), 0, (1, 1)),
            ((3, -1, 0, 1, 8, 1), 0, (8, 3), 0, (0, 2)),
            ((3, -1, 0, 1, 8, 1), 0, (8, 3), 0, (0, -1)),
        ):
            self.assertIs(guard.is_watch(watch), False, watch)
            led = [guard.led(watch, speed) for speed in guard.kind[:2]]
            more = guard.closed([each for each in led if each not in (None, "end", "stall")])
            self.assert_paper(False, guard, paper_of({*paper, watch}))
            self.assert_paper(False, guard, paper_of({*paper, watch, *(more or ())}))
        right = ((3, -1, 0, 1, 8, 1), 1, (1, 10 ** 39), 0, (1, 0))
        self.assert_paper(True, guard, paper_of({*paper, right}))

    def test_watches_of_a_part_in_place_of_all(self):
        for guard, paper in self.nevers(136, 40):
            self.assert_paper_as_checked(guard, (guard.first(),))
            self.assert_paper_as_checked(guard, paper[:len(paper) // 2])

    def test_papers_of_other_choosers_kinds_and_options(self):
        guard = a_guard()
        paper = guard.told()[1]
        for other in (
            Guard(guard.talk, (1, 0, 0), guard.kind), Guard(guard.talk, guard.chooser, (1, 4, 1, 3)),
            Guard(guard.talk, guard.chooser, (1, 3, 2, 3)), Guard(guard.talk, guard.chooser, (0, 3, 1, 3)),
            Guard(guard.talk, guard.chooser, guard.kind, {"begin": 3}), Guard(guard.talk, guard.chooser, guard.kind, {"wait": 1}),
            Guard(guard.talk, guard.chooser, guard.kind, {"most": 4}), Guard(guard.talk, guard.chooser, (1, 3, 1, 4)),
            Guard(guard.talk, guard.chooser, (1, 3, 0, 3)), Guard(guard.talk, guard.chooser, guard.kind, {"again": 1}),
        ):
            self.assert_paper_as_checked(other, paper)
        self.assert_paper(True, Guard(guard.talk, lambda seen: 0, guard.kind), paper)

    def test_things_of_other_kinds(self):
        for guard in guards_by_hand():
            for thing in things() + list(guard.told()):
                if thing != guard.told()[1]:
                    before = repr(thing)
                    self.assert_paper(False, guard, thing)
                    self.assertEqual(repr(thing), before)
            self.assert_paper(False, guard, guard.told())

    def test_many_watches_in_good_time(self):
        guard = Guard(Talk((1, 1, 1), ((1000,), (996,), (1,))), (0, 0, 0), (0, 1, 0, 1), {"begin": 3})
        paper = guard.told(9999)[1]
        begun = time.process_time()
        self.assert_paper(True, guard, paper)
        self.assert_paper(False, guard, paper[:-1])
        self.assertLess(time.process_time() - begun, 5)


class RoadsTest(ChecksTest):

    def test_by_hand(self):
        guard = Guard(Talk((1, 1), ((2,), (2,))), (0, 0), (1, 2, 1, 2), {"begin": 1})
        self.assert_road(True, guard, (2, 1, 2))
        for road in ((), (2,), (2, 1), (2, 1, 2, 2), (2, 2, 1), (2, 1, 1), (1, 2, 2), (2, 1, 2, 1), (2, 1, 3)):
            self.assert_road(False, guard, road)
        self.assert_road(True, guard, (1, 2, 1, 2))

    def test_the_told_roads_and_longer_ones_that_stall_first_in_their_last_beat(self):
        dice = random.Random(141)
        longer = 0
        for guard, road in self.stalls(142, 60):
            slow, fast = guard.kind[:2]
            self.assert_road(True, guard, road)
            self.assert_road(False, guard, road[:-1])
            self.assert_road(False, guard, road + (fast,))
            self.assert_road(False, guard, road + (slow,))
            for at in range(len(road)):
                for other in (slow, fast, slow - 1, fast + 1, True, None, str(road[at]), [road[at]]):
                    changed = road[:at] + (other,) + road[at + 1:]
                    self.assert_road(guard.stalls(changed), guard, changed)
            for _ in range(30):
                other = []
                while len(other) < 40 and not guard.stalls(tuple(other)):
                    other.append(slow if dice.random() < 0.5 and let(guard.kind, (*other[-6:], slow)) else fast)
                self.assert_road(guard.stalls(tuple(other)), guard, tuple(other))
                longer += guard.stalls(tuple(other)) and len(other) > len(road)
        self.assertGreater(longer, 50)

    def test_roads_that_are_not_of_the_kind(self):
        for guard, road in self.stalls(143, 60):
            slow, fast, many, wide = guard.kind
            self.assert_road(False, Guard(guard.talk, guard.chooser, (slow, fast + 1, many, wide), guard.options), road)
            if road.count(slow):
                self.assert_road(False, Guard(guard.talk, guard.chooser, (slow, fast, 0, wide), guard.options), road)

    def test_roads_that_do_not_stall(self):
        for guard, _ in self.nevers(144, 40):
            slow, fast, many, wide = guard.kind
            turn = (slow,) * many + (fast,) * (wide - many)
            for road in ((), (fast,), (fast,) * 5, (fast,) * 200, turn * 40, *(turn[:at] for at in range(wide))):
                self.assert_road(False, guard, road)

    def test_roads_that_go_beyond_the_end(self):
        # No beat behind the end is one of a stall.
        guard = Guard(Talk((1, 1), ((2,), (2,))), (0, 0), (1, 2, 1, 2), {"begin": 1})
        for road in ((2, 2, 2, 2), (2, 2, 2, 2, 1), (2, 2, 1, 2, 1, 2, 1), (2,) * 19000):
            self.assert_road(False, guard, road)

    def test_things_of_other_kinds(self):
        for guard, road in self.stalls(145, 25)[:5]:
            for thing in things() + [list(road), "".join(map(str, road)), (road,), ("stalls", road), dict.fromkeys(road)]:
                before = repr(thing)
                self.assert_road(False, guard, thing)
                self.assertEqual(repr(thing), before)

    def test_a_rule_is_asked_just_once_for_each_stretch(self):
        asked = []

        def rule(seen):
            asked.append(seen[0])
            return 0
        self.assertIs(stalls_holds(Talk((1, 1), ((2,), (2,))), rule, (1, 2, 1, 2), (2, 1, 2), begin=1), True)
        self.assertEqual(asked, [0, 1])


class OptionsTest(ChecksTest):

    def test_left_out_and_in_any_order(self):
        dice = random.Random(146)
        for guard in some_guards(dice, 60):
            bare = Guard(guard.talk, guard.chooser, guard.kind)
            due = bare.told()
            if due == "too many":
                continue
            for named in ({}, {"wait": 0, "most": 30, "again": 8, "begin": 4}, {"begin": 4, "most": 30}):
                given = (guard.talk, guard.chooser, guard.kind, due[1])
                self.assertIs(never_holds(*given, **named), due[0] == "never")
                self.assertIs(stalls_holds(*given, **named), due[0] == "stalls")


class NoRoomTest(unittest.TestCase):

    def test_ahead_of_all_else(self):
        for lengths, most, number in (((4, 2), 3, 0), ((2, 4), 3, 1), ((2, 4, 5), 3, 1), ((30, 31), 30, 1), ((31,), 30, 0)):
            talk = Talk(lengths, ((1, 2),) * len(lengths))
            named = {} if most == 30 else {"most": most}
            plan = (0,) * len(lengths)
            paper = never_stalls(talk, plan, (0, 1, 0, 1), most=400)[1]
            for thing in things() + [paper, (1,), (1, 1)]:
                for check in (never_holds, stalls_holds):
                    with self.assertRaises(NoRoom) as caught:
                        check(talk, plan, (0, 1, 0, 1), thing, **named)
                    self.assertIs(type(caught.exception), NoRoom)
                    self.assertEqual(caught.exception.thing, number)

    def test_just_as_long_is_not_refused(self):
        talk = Talk((4, 2), ((1, 2), (1, 2)))
        paper = never_stalls(talk, (0, 0), (1, 2, 0, 1), most=4)[1]
        self.assertIs(never_holds(talk, (0, 0), (1, 2, 0, 1), paper, most=4), True)
        self.assertIs(stalls_holds(talk, (0, 0), (1, 2, 0, 1), paper, most=4), False)


if __name__ == "__main__":
    unittest.main()
