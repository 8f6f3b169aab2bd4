"""Two tracks: what they tell of plans and rules, against a walk of two stores by hand."""

import itertools
import random
import unittest

from rateplan import twins
from rateplan.errors import NoRoom, RateError, Unlike
from rateplan.roads import Road
from rateplan.runs import run_of
from rateplan.speeds import Speed
from rateplan.talks import Talk
from rateplan.twins import Twin, both_of
from tests.guards import some_rule
from tests.samples import things_of_any_kind
from tests.walks import some_options, some_plan, some_road, speeds_of

FIELDS = ("rates", "begun", "whole", "plays", "stalls", "ended", "apart")


class Half:
    """One of two tracks: its talk, its chooser, and the beats that are kept of it."""

    def __init__(self, talk, chooser):
        self.talk, self.chooser = talk, chooser
        self.rates, self.begun, self.whole, self.store, self.seen = [], [], [], [], []

    def beats_whole(self):
        return sum(self.talk.lengths[:len(self.whole)])

    def all_whole(self):
        return len(self.whole) == len(self.talk.lengths)

    def has_room(self, most):
        return len(self.store) + self.talk.lengths[len(self.whole)] <= most

    def choose(self, beat):
        done = len(self.whole)
        if isinstance(self.chooser, tuple):
            rate = self.chooser[done]
        else:
            last, speed = None, None
            if done:
                last = (self.talk.sizes[done - 1][self.rates[-1]], self.whole[-1] - self.begun[-1])
                speed = Speed(*last)
            self.seen.append((done, len(self.store), self.rates[-1] if done else None, last))
            rate = self.chooser((*self.seen[-1][:3], speed))
            rate = rate if type(rate) is int and rate in range(len(self.talk.sizes[0])) else 0
        self.rates.append(rate)
        self.begun.append(beat)
        return self.talk.sizes[done][rate]

    def keep(self, beat):
        first = self.beats_whole()
        self.store += range(first, first + self.talk.lengths[len(self.whole)])
        self.whole.append(beat + 1)


class TwinWalk:
    """Two talks gone through till their end, beat by beat."""

    def __init__(self, talks, road, choosers, begin=4, again=8, most=30, wait=0):
        self.halves = [Half(talk, chooser) for talk, chooser in zip(talks, choosers)]
        self.plays, self.stalls, self.apart = [], [], []
        state, coming, left, away = "begin", None, 0, 0
        one, other = self.halves
        beat, speeds = 0, []
        while len(self.plays) < sum(talks[0].lengths):
            if beat == len(speeds):
                speeds = speeds_of(road, 2 * len(speeds) + 100)
            done = one.all_whole() and other.all_whole()
            stuck = False
            if coming is None and not done:
                turn = other if other.beats_whole() < one.beats_whole() else one
                if turn.has_room(most):
                    coming, left, away = turn, turn.choose(beat), wait
                else:
                    stuck = True
            least = min(len(half.store) for half in self.halves)
            if state != "play" and (least >= (begin if state == "begin" else again) or done or stuck):
                state = "play"
            if state == "play" and one.store and other.store:
                assert one.store.pop(0) == other.store.pop(0) == len(self.plays)
                self.plays.append(beat)
            elif state == "play":
                state = "stall"
            if state == "stall":
                self.stalls.append(beat)
            if coming is not None and away:
                away -= 1
            elif coming is not None:
                left -= speeds[beat]
                if left <= 0:
                    coming.keep(beat)
                    coming = None
            assert max(len(half.store) for half in self.halves) <= most
            self.apart.append(abs(one.beats_whole() - other.beats_whole()))
            beat += 1
        self.ended = beat

    def fields(self):
        spans = []
        for beat in self.stalls:
            if spans and sum(spans[-1]) == beat:
                spans[-1] = (spans[-1][0], spans[-1][1] + 1)
            else:
                spans.append((beat, 1))
        told = {name: tuple(tuple(getattr(half, name)) for half in self.halves) for name in ("rates", "begun", "whole")}
        return {**told, "plays": tuple(self.plays), "stalls": tuple(spans), "ended": self.ended, "apart": tuple(self.apart)}


def fields_of(twin):
    return {name: getattr(twin, name) for name in FIELDS}


def cut_otherwise(dice, beats, longest):
    """So many beats cut into stretches at random."""
    lengths = []
    while sum(lengths) < beats:
        lengths.append(min(dice.randint(1, longest), beats - sum(lengths)))
    return tuple(lengths)


def some_pair(dice, longest=6, bits=20):
    """Two talks of as many beats, of stretches and rates of their own."""
    beats = dice.randint(1, 20)
    told = []
    for _ in range(2):
        lengths, rates = cut_otherwise(dice, beats, dice.randint(1, longest)), dice.randint(1, 3)
        told.append(Talk(lengths, tuple(tuple(dice.randint(1, bits) for _ in range(rates)) for _ in lengths)))
    return tuple(told)


def some_cases(seed, many):
    """So many (talks, road, choosers, options), plans and rules among the choosers."""
    dice = random.Random(seed)
    told = []
    for _ in range(many):
        talks = some_pair(dice)
        choosers = tuple(dice.choice((some_plan(dice, talk), some_rule(dice, talk.many_rates()))) for talk in talks)
        longest = max(talks, key=lambda talk: max(talk.lengths))
        road = some_road(dice, dice.randint(1, 8), 9, dice.choice((2, 9, 40)))
        told.append((talks, road, choosers, some_options(dice, longest, dice.choice((2, 9)))))
    return told


class TwinsTest(unittest.TestCase):

    def assert_as_walked(self, talks, road, choosers, **options):
        twin = both_of(talks, road, choosers, **options)
        self.assertEqual(fields_of(twin), TwinWalk(talks, road, choosers, **options).fields(), (talks, str(road), options))
        return twin


def by_hand():
    talks = (Talk((2, 2), ((2, 4), (2, 4))), Talk((1, 3), ((1,), (3,))))
    return both_of(talks, Road(((1, 1),)), ((0, 1), (0, 0)), begin=1, again=2)


class TwinTest(TwinsTest):

    def test_fields_and_their_kinds(self):
        # Two of the first are whole at 2, one of the other at 3, so three more of that at 6, two of the first at 10.
        twin = by_hand()
        self.assertEqual(fields_of(twin), {
            "rates": ((0, 1), (0, 0)), "begun": ((0, 6), (2, 3)), "whole": ((2, 10), (3, 6)),
            "plays": (3, 10, 11, 12), "stalls": ((4, 6),), "ended": 13,
            "apart": (0, 2, 1, 1, 1, 2, 2, 2, 2, 0, 0, 0, 0),
        })
        self.assertEqual(set(vars(twin)), set(FIELDS))
        for name in FIELDS:
            self.assertIs(type(getattr(twin, name)), int if name == "ended" else tuple)
        for name in ("rates", "begun", "whole"):
            self.assertEqual([type(half) for half in getattr(twin, name)], [tuple, tuple])

    def test_interface_stands_here(self):
        self.assertEqual(Twin.__module__, "rateplan.twins")
        self.assertEqual(twins.both_of.__module__, "rateplan.twins")
        for name in ("__init__", "__len__", "__eq__"):
            self.assertIn(name, vars(Twin))

    def test_len_is_its_beats(self):
        self.assertEqual(len(by_hand()), 13)
        for talks, road, choosers, options in some_cases(151, 30):
            twin = both_of(talks, road, choosers, **options)
            self.assertEqual([len(twin)] * 3, [twin.ended, len(twin.apart), twin.plays[-1] + 1])

    def test_equal_by_the_fields(self):
        one, other = by_hand(), by_hand()
        self.assertIs(one == other, True)
        self.assertIs(one != other, False)
        for name in FIELDS:
            other = by_hand()
            setattr(other, name, 99 if name == "ended" else getattr(other, name) + (99,))
            self.assertIs(one == other, False)
            self.assertIs(other == one, False)
            self.assertIs(one != other, True)

    def test_nothing_else_is_equal(self):
        twin = by_hand()

        class LikeATwin:
            def __init__(self):
                for name in FIELDS:
                    setattr(self, name, getattr(twin, name))

        run = run_of(Talk((1,), ((1,),)), Road(((1, 1),)), (0,))
        for other in things_of_any_kind() + [0, 13, "", tuple(fields_of(twin).values()), fields_of(twin), LikeATwin(), run]:
            self.assertIs(twin == other, False)
            self.assertIs(other == twin, False)
            self.assertIs(twin != other, True)

    def test_two_objects_share_nothing(self):
        one, other = by_hand(), by_hand()
        for name in FIELDS:
            setattr(one, name, None)
        self.assertEqual(other, by_hand())


class WalksTest(TwinsTest):

    def test_against_walks(self):
        for talks, road, choosers, options in some_cases(152, 500):
            self.assert_as_walked(talks, road, choosers, **options)

    def test_options_left_out(self):
        for talks, road, choosers, _ in some_cases(153, 100):
            twin = self.assert_as_walked(talks, road, choosers)
            self.assertEqual(twin, both_of(talks, road, choosers, wait=0, most=30, again=8, begin=4))

    def test_options_in_any_order(self):
        for talks, road, choosers, options in some_cases(154, 5):
            due = both_of(talks, road, choosers, **options)
            for order in itertools.permutations(options.items()):
                self.assertEqual(both_of(talks, road, choosers, **dict(order)), due)

    def test_all_plans_of_small_talks(self):
        dice = random.Random(155)
        for _ in range(15):
            talks = (
                Talk((2, 1, 2), tuple((dice.randint(1, 5), dice.randint(1, 9)) for _ in range(3))),
                Talk((3, 2), tuple((dice.randint(1, 5), dice.randint(1, 9)) for _ in range(2))),
            )
            road, options = some_road(dice, 4, 4, 4), some_options(dice, talks[1], 4)
            for one in itertools.product(range(2), repeat=3):
                for other in itertools.product(range(2), repeat=2):
                    self.assert_as_walked(talks, road, (one, other), **options)

    def test_talks_of_one_stretch_each(self):
        talks = (Talk((3,), ((4,),)), Talk((3,), ((2,),)))
        twin = self.assert_as_walked(talks, Road(((1, 2),)), ((0,), (0,)))
        self.assertEqual(twin.begun, ((0,), (2,)))
        self.assertEqual((twin.plays, twin.apart), ((3, 4, 5), (0, 3, 0, 0, 0, 0)))

    def test_one_stretch_and_many(self):
        one, many = Talk((12,), ((24,),)), Talk((1,) * 12, ((2,),) * 12)
        for talks in ((one, many), (many, one)):
            for options in ({}, {"begin": 1, "again": 1}, {"most": 12, "begin": 12}, {"wait": 3}):
                choosers = tuple((0,) * len(talk.lengths) for talk in talks)
                self.assert_as_walked(talks, Road(((5, 2), (3, 0), (1, 1))), choosers, **options)

    def test_of_two_alike_the_first_one_is_ahead(self):
        talk = Talk((2, 2), ((2,), (2,)))
        twin = both_of((talk, talk), Road(((1, 2),)), ((0, 0), (0, 0)))
        self.assertEqual(twin.begun, ((0, 2), (1, 3)))
        # Three and two are whole, so it is the other one's turn; then four and four.
        twin = both_of((Talk((3, 1, 1), ((1,),) * 3), Talk((2, 2, 1), ((1,),) * 3)), Road(((1, 1),)), ((0,) * 3,) * 2)
        self.assertEqual(twin.begun, ((0, 3, 4), (1, 2, 5)))

    def test_what_is_coming_does_not_count(self):
        # All of a stretch but one bit is here of one talk; it still has fewer whole ones only where it comes.
        talks = (Talk((1, 3), ((1,), (9,))), Talk((2, 2), ((1,), (1,))))
        twin = both_of(talks, Road(((1, 1),)), ((0, 0), (0, 0)), begin=400, again=400)
        self.assertEqual(twin.begun, ((0, 2), (1, 11)))

    def test_no_room_of_the_one_whose_turn_it_is(self):
        # Two and two are kept; the first one's next three have no room, the other one's single beat would have.
        talks = (Talk((2, 3), ((1,), (1,))), Talk((2, 1, 2), ((1,), (1,), (1,))))
        twin = self.assert_as_walked(talks, Road(((1, 1),)), ((0, 0), (0, 0, 0)), begin=400, again=400, most=3)
        self.assertEqual(twin.plays[:2], (2, 3))
        self.assertEqual(twin.begun, ((0, 4), (1, 5, 6)))
        # The other way round it has room, and the first one's want of it begins no play.
        talks = (Talk((2, 1, 2), ((1,), (1,), (1,))), Talk((2, 3), ((1,), (1,))))
        twin = self.assert_as_walked(talks, Road(((1, 1),)), ((0, 0, 0), (0, 0)), begin=400, again=400, most=3)
        self.assertEqual(twin.begun[0][1], 2)
        self.assertEqual(twin.plays[0], 3)

    def test_begin_and_again_are_asked_of_the_one_that_keeps_less(self):
        talks = (Talk((4, 4), ((1,), (40,))), Talk((2, 2, 4), ((1,), (5,), (1,))))
        twin = self.assert_as_walked(talks, Road(((1, 1),)), ((0, 0), (0, 0, 0)), begin=3, again=1)
        self.assertEqual(twin.plays[0], 7)
        twin = self.assert_as_walked(talks, Road(((1, 1),)), ((0, 0), (0, 0, 0)), begin=2, again=2)
        self.assertEqual(twin.plays[:3], (2, 3, 7))
        twin = self.assert_as_walked(talks, Road(((1, 1),)), ((0, 0), (0, 0, 0)), begin=2, again=3)
        # At 47 six are kept of the first one, but two of the other.
        self.assertEqual(twin.plays[:3], (2, 3, 48))

    def test_where_all_is_whole_play_begins(self):
        talks = (Talk((1, 1), ((1,), (1,))), Talk((2,), ((1,),)))
        self.assertEqual(both_of(talks, Road(((1, 1),)), ((0, 0), (0,)), begin=400).plays, (3, 4))

    def test_wait_goes_by_ahead_of_each_fetch(self):
        talks = (Talk((2,), ((1,),)), Talk((1, 1), ((1,), (1,))))
        twin = both_of(talks, Road(((1, 9),)), ((0,), (0, 0)), wait=2, begin=1)
        self.assertEqual((twin.begun, twin.whole), (((0,), (3, 6)), ((3,), (6, 9))))

    def test_a_talk_beside_itself_over_a_very_fast_road(self):
        talk = Talk((2, 3), ((5,), (5,)))
        twin = both_of((talk, talk), Road(((1, 1000),)), ((0, 0), (0, 0)))
        self.assertEqual((twin.begun, twin.whole), (((0, 2), (1, 3)), ((1, 3), (2, 4))))


class RulesTest(TwinsTest):

    def test_each_sees_its_own(self):
        for talks, road, _, options in some_cases(156, 60):
            seen = ([], [])

            def rule_of(number):
                def rule(shown):
                    seen[number].append(shown[:3] + (None if shown[3] is None else (shown[3].bits, shown[3].beats),))
                    self.assertTrue(shown[3] is None or type(shown[3]) is Speed)
                    return (shown[0] + shown[1]) % 2
                return rule
            both_of(talks, road, (rule_of(0), rule_of(1)), **options)
            asked = (seen[0][:], seen[1][:])
            walk = TwinWalk(talks, road, (rule_of(0), rule_of(1)), **options)
            self.assertEqual(asked, (walk.halves[0].seen, walk.halves[1].seen))

    def test_each_is_asked_just_once_for_each_stretch(self):
        for talks, road, _, options in some_cases(157, 40):
            asked = ([], [])
            both_of(talks, road, (lambda shown: asked[0].append(shown[0]), lambda shown: asked[1].append(shown[0])), **options)
            for talk, numbers in zip(talks, asked):
                self.assertEqual(numbers, list(range(len(talk.lengths))))

    def test_one_rule_handed_for_both(self):
        for talks, road, _, options in some_cases(158, 60):
            rates = min(talk.many_rates() for talk in talks)
            rule = some_rule(random.Random(len(talks[0])), rates)
            twin = self.assert_as_walked(talks, road, (rule, rule), **options)
            asked = []
            both_of(talks, road, (lambda shown: asked.append(0) or rule(shown),) * 2, **options)
            self.assertEqual(len(asked), len(twin.rates[0]) + len(twin.rates[1]))

    def test_what_is_taken_for_rate_0(self):
        talks = (Talk((2, 1), ((3, 6), (3, 6))), Talk((1, 2), ((2, 5, 7), (2, 5, 7))))
        for told in (None, True, False, -1, 3, "1", (1,), [1], 10 ** 39, talks[0]):
            twin = both_of(talks, Road(((1, 2),)), (lambda seen: told, (1, 1)))
            self.assertEqual(twin.rates, ((0, 0), (1, 1)))
        # Two is a rate of the second one alone.
        twin = both_of(talks, Road(((1, 2),)), (lambda seen: 2, lambda seen: 2))
        self.assertEqual(twin.rates, ((0, 0), (2, 2)))


class PromiseTest(TwinsTest):

    def test_they_never_part_by_more_than_the_longest_stretch(self):
        for talks, road, choosers, options in some_cases(159, 200):
            twin = both_of(talks, road, choosers, **options)
            longest = max(max(talk.lengths) for talk in talks)
            self.assertLessEqual(max(twin.apart), longest)
            self.assertGreaterEqual(min(twin.apart), 0)
            self.assertEqual(twin.apart[-1], 0)

    def test_beats_in_order_none_lost(self):
        for talks, road, choosers, options in some_cases(160, 150):
            twin = both_of(talks, road, choosers, **options)
            self.assertEqual(len(twin.plays), len(talks[0]))
            self.assertEqual(sorted(set(twin.plays)), list(twin.plays))
            stalled = {beat for first, many in twin.stalls for beat in range(first, first + many)}
            for beat in range(twin.ended):
                self.assertEqual(beat not in twin.plays, beat < twin.plays[0] or beat in stalled)
            spans = []
            for number, talk in enumerate(talks):
                for stretch, (begun, whole) in enumerate(zip(twin.begun[number], twin.whole[number])):
                    bits = talk.sizes[stretch][twin.rates[number][stretch]]
                    self.assertEqual(whole, road.fetched(begun, bits, wait=options["wait"]))
                    spans.append((begun, whole))
            # One stretch comes at a time.
            spans.sort()
            self.assertTrue(all(one[1] <= other[0] for one, other in zip(spans, spans[1:])))

    def test_told_again_the_same_and_nothing_is_changed(self):
        for talks, road, choosers, options in some_cases(161, 20):
            before = (repr(talks), road.pieces)
            one, other = both_of(talks, road, choosers, **options), both_of(talks, road, choosers, **options)
            self.assertEqual(one, other)
            self.assertEqual((repr(talks), road.pieces), before)


class RefusalsTest(unittest.TestCase):

    def assert_no_room(self, number, talks, **options):
        with self.assertRaises(NoRoom) as caught:
            both_of(talks, Road(((1, 1),)), tuple((0,) * len(talk.lengths) for talk in talks), **options)
        self.assertIs(type(caught.exception), NoRoom)
        self.assertEqual(caught.exception.thing, number)

    def talk(self, *lengths):
        return Talk(lengths, ((1, 2),) * len(lengths))

    def test_no_room_of_the_first_talk_that_has_one(self):
        self.assert_no_room(1, (self.talk(2, 4, 3), self.talk(9)), most=3)
        self.assert_no_room(0, (self.talk(2, 2, 3, 2), self.talk(4, 5)), most=3)
        self.assert_no_room(2, (self.talk(3, 3, 3), self.talk(2, 3, 4)), most=3)
        self.assert_no_room(0, (self.talk(31), self.talk(1, 30)))
        self.assert_no_room(1, (self.talk(30, 1), self.talk(1, 31)))

    def test_no_room_ahead_of_unlike(self):
        self.assert_no_room(1, (self.talk(2, 4), self.talk(9, 9)), most=3)
        self.assert_no_room(1, (self.talk(2, 1), self.talk(2, 4)), most=3)
        self.assert_no_room(0, (self.talk(2), self.talk(31)))

    def test_unlike(self):
        for one, other in (((2, 4), (2, 3)), ((1,), (1, 1)), ((3, 3, 3), (8,)), ((30,), (30, 1))):
            with self.assertRaises(Unlike) as caught:
                both_of((self.talk(*one), self.talk(*other)), Road(((1, 1),)), ((0,) * len(one), (0,) * len(other)))
            self.assertIs(type(caught.exception), Unlike)
            self.assertNotIsInstance(caught.exception, RateError)
            self.assertEqual((caught.exception.one, caught.exception.other), (sum(one), sum(other)))

    def test_unlike_asks_no_rule(self):
        def no_one(seen):
            raise AssertionError("nothing is asked")
        with self.assertRaises(Unlike):
            both_of((self.talk(1), self.talk(2)), Road(((1, 1),)), (no_one, no_one))
        with self.assertRaises(NoRoom):
            both_of((self.talk(1), self.talk(2)), Road(((1, 1),)), (no_one, no_one), most=1)

    def test_just_as_long_is_not_refused(self):
        self.assertEqual(len(both_of((self.talk(4), self.talk(2, 2)), Road(((1, 1),)), ((0,), (0, 0)), most=4).plays), 4)

    def test_unlike_rates_are_let(self):
        talks = (Talk((2,), ((1, 2, 3),)), Talk((2,), ((4,),)))
        self.assertEqual(both_of(talks, Road(((1, 1),)), ((2,), (0,))).whole, ((3,), (7,)))


if __name__ == "__main__":
    unittest.main()
