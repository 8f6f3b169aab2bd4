"""Checks of papers of worths: what right ones show, and that nothing else is one."""

import random
import time
import unittest

from rateplan import bestchecks
from rateplan.best import best_plan
from rateplan.bestchecks import shown_worth
from rateplan.errors import NoRoom
from rateplan.roads import Road
from rateplan.talks import Talk
from tests.papers import Case, paper_of, some_cases
from tests.samples import changed_parts, things_of_any_kind


def a_case(**named):
    """Three stretches at two rates, so seven posts without bounds."""
    talk = Talk((3, 2, 4), ((4, 9), (3, 7), (5, 12)))
    bounds = {name: named[name] for name in ("steps", "switches") if name in named}
    options = {name: named[name] for name in named if name not in bounds}
    return Case(talk, Road(((2, 3), (3, 0), (4, 2), (1, 1))), ((2, 5), 3, 4, 1), bounds, options)


def cases_by_hand():
    return [
        a_case(),
        a_case(switches=1),
        a_case(steps=1, switches=2, most=5, wait=2),
        a_case(steps=0, begin=1, again=1, most=4),
        a_case(switches=0, begin=400, again=400),
    ]


class ChecksTest(unittest.TestCase):

    def shown(self, case, thing):
        return shown_worth(case.talk, case.road, case.terms, thing, **case.named)

    def assert_shows(self, case, thing, worth):
        self.assertEqual(self.shown(case, thing), worth)
        self.assertIs(type(self.shown(case, thing)), int)

    def assert_none(self, case, thing):
        self.assertIsNone(self.shown(case, thing), thing)

    def assert_as_checked(self, case, thing):
        self.assertEqual(self.shown(case, thing), case.shown(thing))


class RightPapersTest(ChecksTest):

    def test_defined_here(self):
        self.assertEqual(bestchecks.shown_worth.__module__, "rateplan.bestchecks")

    def test_papers_of_the_tests_own(self):
        for case in cases_by_hand() + some_cases(random.Random(81), 120):
            self.assert_shows(case, case.paper(), case.best())

    def test_the_told_paper(self):
        for case in cases_by_hand() + some_cases(random.Random(82), 60):
            plan, paper = best_plan(case.talk, case.road, case.terms, **case.named)
            self.assert_shows(case, paper, case.worth(plan))

    def test_by_hand(self):
        case = Case(Talk((2, 1), ((2, 3), (1, 4))), Road(((1, 1),)), ((1, 10), 5, 3, 1), {}, {"begin": 1})
        first = (0, (0, -1, 0, 0, 0, 0), -1, -1)
        low, high = (2, (1, -1, 0, 2, 0, 0), 0, -1), (3, (1, -1, 0, 2, 0, 0), 1, -1)
        # Behind the low one at the high rate: ten less a step, less two beats of a stall.
        self.assert_shows(case, ((first, 20 - 3 + 4), (low, 1), (high, 4)), 21)
        self.assert_shows(case, ((first, 22), (low, 1), (high, 4)), 22)
        self.assert_shows(case, ((first, 22), (low, 1), (high, 5)), 22)
        self.assert_none(case, ((first, 20), (low, 1), (high, 4)))
        self.assert_none(case, ((first, 21), (low, 0), (high, 4)))
        self.assert_none(case, ((first, 21), (low, 1), (high, 3)))
        self.assert_none(case, ((first, 21), (low, 1), (high, 5)))

    def test_greater_numbers(self):
        dice = random.Random(83)
        for case in cases_by_hand() + some_cases(dice, 40):
            numbers = case.numbers()
            for more in (1, 7, 10 ** 39):
                self.assert_shows(case, paper_of({post: number + more for post, number in numbers.items()}), case.best() + more)
            # Whatever the first one's is raised by, it is shown.
            self.assert_shows(case, paper_of({**numbers, case.first(): case.best() + 5}), case.best() + 5)
            # One raised by itself holds there, and is asked for by what leads to it.
            for post in list(numbers)[:8]:
                self.assert_as_checked(case, paper_of({**numbers, post: numbers[post] + dice.randint(1, 3)}))

    def test_posts_that_no_plan_comes_to(self):
        dice = random.Random(84)
        for case in cases_by_hand() + some_cases(dice, 60):
            more = case.some_posts(dice, 4)
            numbers = case.numbers(more)
            self.assertGreaterEqual(set(numbers), set(more))
            self.assert_shows(case, paper_of(numbers), case.best())
            for post in more:
                self.assert_none(case, paper_of({**numbers, post: numbers[post] - 1}))
                for each in set(numbers) - set(case.numbers([other for other in more if other != post])):
                    left = dict(numbers)
                    del left[each]
                    self.assert_as_checked(case, paper_of(left))

    def test_a_first_stand_with_fewer_left_stands_ahead_of_the_first_one(self):
        case = a_case(switches=2)
        fewer = (0, (0, -1, 0, 0, 0, 0), -1, 0)
        numbers = case.numbers([fewer])
        paper = paper_of(numbers)
        self.assertEqual(paper[0][0], fewer)
        self.assertLess(numbers[fewer], numbers[case.first()])
        self.assert_shows(case, paper, case.best())

    def test_a_post_that_is_very_late(self):
        # The road is one speed there, so the same legs are gone as from the first of its last beats on.
        case = a_case()
        late, far = (10, (0, -1, 0, 0, 0, 0), -1, -1), 10 ** 39
        numbers = case.numbers([late])
        closed = Case(case.talk, case.road, case.terms, case.bounds, case.options)
        behind = {post: number for post, number in numbers.items() if post[0] >= 10 and self.comes_from(closed, late, post)}
        moved = {(post[0] + far, *post[1:]): number for post, number in behind.items()}
        self.assert_shows(case, paper_of({**numbers, **moved}), case.best())
        for post in moved:
            self.assert_none(case, paper_of({**numbers, **moved, post: moved[post] - 1}))

    def comes_from(self, case, first, post):
        left, met = [first], set()
        while left:
            each = left.pop()
            met.add(each)
            left += [led for _, led in case.ways(each) if led is not None]
        return post in met

    def test_no_plan_is_better_than_what_is_shown(self):
        dice = random.Random(85)
        for case in cases_by_hand() + some_cases(dice, 30):
            paper = list(case.paper())
            for _ in range(20):
                at = dice.randrange(len(paper))
                changed = list(paper)
                changed[at] = (paper[at][0], paper[at][1] + dice.choice((-2, -1, 1, 2, 50)))
                if dice.random() < 0.3:
                    del changed[dice.randrange(len(changed))]
                shown = self.shown(case, tuple(changed))
                self.assertEqual(shown, case.shown(tuple(changed)))
                if shown is not None:
                    self.assertGreaterEqual(shown, case.best())

    def test_what_is_handed_in_stays(self):
        for case in cases_by_hand():
            paper = case.paper()
            before = (repr(paper), repr(case.talk), case.road.pieces, repr(case.terms))
            self.assertEqual(self.shown(case, paper), self.shown(case, paper))
            self.assertEqual((repr(paper), repr(case.talk), case.road.pieces, repr(case.terms)), before)


class WrongPapersTest(ChecksTest):

    def test_one_number_one_too_small(self):
        for case in cases_by_hand() + some_cases(random.Random(86), 40):
            numbers = case.numbers()
            for post in numbers:
                self.assert_none(case, paper_of({**numbers, post: numbers[post] - 1}))

    def test_one_post_left_out(self):
        for case in cases_by_hand() + some_cases(random.Random(87), 40):
            paper = case.paper()
            for at in range(len(paper)):
                self.assert_none(case, paper[:at] + paper[at + 1:])

    def test_two_exchanged(self):
        for case in cases_by_hand():
            paper = case.paper()
            for at in range(len(paper)):
                for other in range(at):
                    changed = list(paper)
                    changed[at], changed[other] = paper[other], paper[at]
                    self.assert_none(case, tuple(changed))

    def test_one_twice(self):
        for case in cases_by_hand():
            paper = case.paper()
            for at, (post, number) in enumerate(paper):
                for again in (number, number + 1, number - 1):
                    self.assert_none(case, paper[:at] + ((post, again),) + paper[at:])
                    self.assert_none(case, paper[:at + 1] + ((post, again),) + paper[at + 1:])

    def test_each_number_of_each_post_put_otherwise(self):
        for case in cases_by_hand():
            numbers = case.numbers()
            for post in numbers:
                beat, stand, rate, left = post
                others = [(beat + by, stand, rate, left) for by in (-1, 1, -beat - 1)]
                others += [(beat, stand, rate + by, left) for by in (-2, -1, 1, 2)]
                others += [(beat, stand, rate, left + by) for by in (-2, -1, 1, 2)]
                others += [(beat, stand[:at] + (stand[at] + by,) + stand[at + 1:], rate, left)
                           for at in range(6) for by in (-1, 1)]
                for other in others:
                    changed = dict(numbers)
                    del changed[post]
                    # In its stead, and beside it.
                    self.assert_as_checked(case, paper_of({**changed, other: numbers[post]}))
                    self.assert_none(case, paper_of({**changed, other: numbers[post]}))
                    self.assert_as_checked(case, paper_of({**numbers, other: numbers[post]}))

    def test_parts_of_other_kinds(self):
        for case in cases_by_hand():
            paper = case.paper()
            for at, entry in enumerate(paper):
                for changed in changed_parts(entry):
                    self.assert_none(case, paper[:at] + (changed,) + paper[at + 1:])

    def test_lists_in_place_of_tuples(self):
        case = a_case()
        paper = case.paper()
        self.assert_none(case, list(paper))
        self.assert_none(case, dict(paper))
        self.assert_none(case, [list(entry) for entry in paper])
        for at, (post, number) in enumerate(paper):
            for entry in ([post, number], (list(post), number), ((post[0], list(post[1]), *post[2:]), number)):
                self.assert_none(case, paper[:at] + (entry,) + paper[at + 1:])

    def test_things_of_other_kinds(self):
        deep = ()
        for _ in range(29):
            deep = (deep,)
        case = a_case()
        first = case.first()
        things = things_of_any_kind() + [
            0, -1, 10 ** 39, "", "x" * 4000, deep, ((),), ((), ()), (deep, deep), (first,), first, ((first, 0),), ((first,),),
            ((first, 10 ** 39),), ((first, 0, 0),), ((first, deep),), ((deep, 0),), (((0, deep, -1, -1), 0),),
            (((0, first[1], -1), 0),), (((0, first[1], -1, -1, 0), 0),), {first: 0}, [(first, 0)], ((first, 0),) * 5000,
            tuple(range(20000)), (case.paper(),), case.paper() + ((),), case.paper() + (None,), shown_worth,
        ]
        for thing in things:
            for other in (case, a_case(switches=1), a_case(most=4, wait=3)):
                before = repr(thing)
                self.assert_none(other, thing)
                self.assertEqual(repr(thing), before)

    def test_stands_that_do_not_ask(self):
        case = a_case(most=5)
        numbers = case.numbers()
        self.assert_shows(case, paper_of(numbers), case.best())
        for stand, rate in (
            ((0, 0, 0, 0, 0, 0), -1), ((1, 1, 2, 3, 0, 0), 0), ((2, -1, 0, 5, 0, 0), 0), ((2, -1, 0, 2, 3, 1), 0),
            ((3, -1, 0, 0, 9, 1), 0), ((3, -1, 0, 3, 6, 2), 1),
        ):
            self.assert_none(case, paper_of({**numbers, (70, stand, rate, -1): 10 ** 6}))
        # Beside one that asks, so that all behind it is there or is not.
        asking = (70, (2, -1, 0, 1, 4, 1), 0, -1)
        self.assert_shows(case, paper_of(case.numbers([asking])), case.best())

    def test_rates_that_are_none_of_the_talk(self):
        case = a_case()
        numbers = case.numbers()
        for fetched, rates in ((0, (0, 1, -2, 2)), (1, (-1, 2, -2, 10 ** 39)), (2, (-1, 2))):
            whole = sum(case.talk.lengths[:fetched])
            for rate in rates:
                post = (70, (fetched, -1, 0, whole, 0, 0), rate, -1)
                self.assert_none(case, paper_of({**numbers, post: 10 ** 6}))

    def test_left_that_is_not_from_nought_to_switches(self):
        for switches, rights in ((None, (-1,)), (0, (0,)), (1, (0, 1)), (2, (0, 1, 2))):
            case = a_case(switches=switches) if switches is not None else a_case()
            for left in range(-3, 5):
                post = (70, (2, -1, 0, 5, 0, 0), 0, left)
                if left in rights:
                    self.assert_shows(case, paper_of(case.numbers([post])), case.best())
                else:
                    self.assert_none(case, paper_of({**case.numbers(), post: 10 ** 6}))
            asked_otherwise = a_case(switches=3)
            self.assert_none(asked_otherwise, case.paper())

    def test_a_paper_of_another_road_talk_or_terms(self):
        case = a_case()
        paper = case.paper()
        for other in (
            Case(case.talk, Road(((2, 3), (3, 0), (4, 2), (1, 2))), case.terms),
            Case(case.talk, Road(((2, 3), (4, 0), (4, 2), (1, 1))), case.terms),
            Case(Talk(case.talk.lengths, ((4, 9), (3, 7), (5, 13))), case.road, case.terms),
            Case(case.talk, case.road, ((2, 6), 3, 4, 1)),
            Case(case.talk, case.road, case.terms, {}, {"begin": 2}),
            Case(case.talk, case.road, case.terms, {}, {"wait": 1}),
        ):
            self.assert_as_checked(other, paper)
            shown = self.shown(other, paper)
            self.assertTrue(shown is None or shown >= other.best())

    def test_a_paper_of_wider_bounds_is_one_of_narrower_steps(self):
        wide, narrow = a_case(), a_case(steps=0)
        self.assert_shows(narrow, wide.paper(), wide.best())
        self.assert_none(wide, narrow.paper())


class BoundsTest(ChecksTest):

    def test_a_paper_of_very_many_posts_in_good_time(self):
        dice = random.Random(88)
        talk = Talk((20,) * 6, ((200, 199, 198),) * 6)
        case = Case(talk, Road(((50, 0), (50, 1)) * 6), ((1, 2, 3), 1, 1, 1), {}, {"wait": 400, "most": 400})
        first = best_plan(case.talk, case.road, case.terms, **case.named)[1]
        # Any great number holds at a last post, so many of them make a great paper.
        more = {(5000 + at, (5, -1, 0, 100, 0, 0), dice.randrange(3), -1): 10 ** 6 for at in range(1200)}
        begun = time.process_time()
        self.assertEqual(self.shown(case, paper_of({**dict(first), **more})), dict(first)[case.first()])
        self.assertLess(time.process_time() - begun, 20)


class NoRoomTest(unittest.TestCase):

    def test_ahead_of_all_else(self):
        road = Road(((1, 1),))
        for lengths, most, number in (((4, 2), 3, 0), ((2, 4), 3, 1), ((2, 4, 5), 3, 1), ((30, 31), 30, 1), ((31,), 30, 0)):
            talk = Talk(lengths, ((1, 2),) * len(lengths))
            named = {} if most == 30 else {"most": most}
            paper = best_plan(talk, road, ((1, 1), 0, 0, 0), most=400)[1]
            for thing in things_of_any_kind() + [paper, 0, ""]:
                with self.assertRaises(NoRoom) as caught:
                    shown_worth(talk, road, ((1, 1), 0, 0, 0), thing, **named)
                self.assertIs(type(caught.exception), NoRoom)
                self.assertEqual(caught.exception.thing, number)

    def test_just_as_long_is_not_refused(self):
        talk = Talk((4, 2), ((1, 2),) * 2)
        terms = ((1, 2), 0, 0, 0)
        paper = best_plan(talk, Road(((1, 1),)), terms, most=4)[1]
        self.assertEqual(shown_worth(talk, Road(((1, 1),)), terms, paper, most=4), 12)
        self.assertIsNone(shown_worth(talk, Road(((1, 1),)), terms, None, most=4))


if __name__ == "__main__":
    unittest.main()
