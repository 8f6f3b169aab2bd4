"""Best plans: against all plans one by one, and the paper that is told beside."""

import random
import time
import unittest

from rateplan import best
from rateplan.best import best_plan
from rateplan.bestchecks import shown_worth
from rateplan.errors import NoRoom
from rateplan.roads import Road
from rateplan.talks import Talk
from rateplan.worths import in_bounds
from tests.papers import Case, some_cases, some_terms
from tests.walks import some_options, some_road, some_talk


class BestTest(unittest.TestCase):

    def best_of(self, case):
        plan, paper = best_plan(case.talk, case.road, case.terms, **case.named)
        self.assertIs(type(plan), tuple)
        self.assertEqual(len(plan), len(case.talk.lengths))
        self.assertEqual([type(rate) for rate in plan], [int] * len(plan))
        return plan, paper

    def assert_best(self, case):
        plan, paper = self.best_of(case)
        self.assertTrue(in_bounds(plan, **case.bounds))
        self.assertEqual(case.worth(plan), case.best(), (case.talk, str(case.road), case.terms, case.named))
        self.assert_paper(case, paper, case.worth(plan))
        return plan

    def assert_paper(self, case, paper, worth):
        self.assertEqual(case.shown(paper), worth)
        self.assertEqual(shown_worth(case.talk, case.road, case.terms, paper, **case.named), worth)
        posts = [post for post, _ in paper]
        self.assertEqual(posts, sorted(posts))
        self.assertEqual(len(set(posts)), len(posts))
        self.assertIn(case.first(), posts)


class BestPlanTest(BestTest):

    def test_told_is_a_pair(self):
        told = best_plan(Talk((2,), ((3,),)), Road(((1, 1),)), ((5,), 1, 1, 2))
        self.assertEqual(told, ((0,), (((0, (0, -1, 0, 0, 0, 0), -1, -1), 2 * 5 - 3 * 2),)))
        self.assertIs(type(told), tuple)
        self.assertEqual(best.best_plan.__module__, "rateplan.best")

    def test_by_hand(self):
        talk = Talk((2, 2, 2), ((2, 8), (2, 8), (2, 8)))
        road = Road(((1, 1),))
        self.assertEqual(best_plan(talk, road, ((1, 2), 0, 0, 0))[0], (1, 1, 1))
        self.assertEqual(best_plan(talk, road, ((2, 1), 0, 0, 0))[0], (0, 0, 0))
        # Behind two stretches play begins, and the third one has to come while four beats last.
        self.assertEqual(best_plan(talk, road, ((1, 4), 0, 10, 0))[0], (1, 1, 0))
        self.assertEqual(best_plan(talk, road, ((1, 4), 0, 10, 0), begin=1)[0], (1, 0, 0))
        self.assertEqual(best_plan(talk, road, ((0, 1), 0, 0, 10), begin=1)[0], (0, 1, 1))
        # To change costs one less, and one more, than the four beats of the others are worth.
        self.assertEqual(best_plan(talk, road, ((0, 1), 3, 0, 10), begin=1)[0], (0, 1, 1))
        self.assertEqual(best_plan(talk, road, ((0, 1), 5, 0, 10), begin=1)[0], (0, 0, 0))

    def test_against_all_plans(self):
        for case in some_cases(random.Random(71), 250):
            self.assert_best(case)

    def test_bounds_of_all_sorts(self):
        dice = random.Random(72)
        for _ in range(12):
            talk, road = some_talk(dice, 4, 3, 4, 12), some_road(dice, 4, 6, 4)
            options, terms = some_options(dice, talk, 8), some_terms(dice, 3)
            for steps in (None, 0, 1, 2, 100):
                for switches in (None, 0, 1, 3, 100):
                    self.assert_best(Case(talk, road, terms, {"steps": steps, "switches": switches}, options))

    def test_options_of_all_sorts(self):
        dice = random.Random(73)
        for _ in range(10):
            talk, road = some_talk(dice, 3, 2, 6, 12), some_road(dice, 4, 6, 4)
            terms = some_terms(dice, 2)
            for begin in (1, 4, 400):
                for again in (1, 3, 400):
                    for most in (max(talk.lengths), max(talk.lengths) + 2, 400):
                        for wait in (0, 1, 7):
                            options = {"begin": begin, "again": again, "most": most, "wait": wait}
                            self.assert_best(Case(talk, road, terms, {}, options))

    def test_what_is_left_out(self):
        dice = random.Random(74)
        for _ in range(30):
            talk, road = some_talk(dice, 4, 2, 20, 40), some_road(dice, 6, 8, 5)
            terms = some_terms(dice, 2)
            plan, paper = best_plan(talk, road, terms)
            named = {"wait": 0, "most": 30, "again": 8, "begin": 4, "switches": None, "steps": None}
            self.assertEqual(best_plan(talk, road, terms, **named), (plan, paper))
            self.assert_best(Case(talk, road, terms))

    def test_bounds_that_let_one_rate_alone(self):
        dice = random.Random(75)
        for _ in range(20):
            talk, road = some_talk(dice, 4, 3, 4, 12), some_road(dice, 4, 6, 4)
            for bounds in ({"steps": 0}, {"switches": 0}, {"steps": 0, "switches": 5}, {"switches": 0, "steps": 2}):
                plan = self.assert_best(Case(talk, road, some_terms(dice, 3), bounds, some_options(dice, talk, 8)))
                self.assertEqual(len(set(plan)), 1)

    def test_terms_of_nought(self):
        for case in some_cases(random.Random(76), 20):
            case.terms = ((0,) * case.talk.many_rates(), 0, 0, 0)
            _, paper = self.best_of(case)
            self.assertEqual({number for _, number in paper}, {0})
            self.assert_best(case)

    def test_what_is_handed_in_stays_and_the_same_is_told_the_same(self):
        for case in some_cases(random.Random(77), 20):
            before = (repr(case.talk), case.road.pieces, repr(case.terms), dict(case.named))
            self.assertEqual(self.best_of(case), self.best_of(case))
            self.assertEqual((repr(case.talk), case.road.pieces, repr(case.terms), case.named), before)


class BoundsTest(BestTest):

    def great_case(self, dice, options):
        talk = Talk((20, 1, 20, 7, 20, 13), tuple(tuple(dice.randint(1, 200) for _ in range(3)) for _ in range(6)))
        road = Road(tuple((dice.randint(1, 50), dice.choice((0, 1, 2, 5))) for _ in range(11)) + ((50, 1),))
        return Case(talk, road, some_terms(dice, 3), {}, options)

    def test_six_stretches_at_three_rates_in_good_time(self):
        dice = random.Random(78)
        begun = time.process_time()
        for options in ({}, {"wait": 400, "most": 400}, {"begin": 400, "again": 400, "most": 20}, {"most": 20, "wait": 3}):
            case = self.great_case(dice, options)
            for bounds in ({}, {"steps": 1}, {"switches": 2}, {"steps": 1, "switches": 100}):
                case = Case(case.talk, case.road, case.terms, bounds, options)
                plan, paper = self.best_of(case)
                self.assertTrue(in_bounds(plan, **bounds))
                worth = case.worth(plan)
                self.assertEqual(shown_worth(case.talk, case.road, case.terms, paper, **case.named), worth)
                for other in dice.sample(case.plans(), 8):
                    self.assertLessEqual(case.worth(other), worth)
        self.assertLess(time.process_time() - begun, 30)

    def test_all_plans_of_six_stretches(self):
        dice = random.Random(79)
        talk = some_talk(dice, 6, 3, 5, 20)
        self.assert_best(Case(talk, some_road(dice, 12, 20, 6), ((1, 2, 3), 1, 4, 1), {}, {"most": 8}))


class NoRoomTest(unittest.TestCase):

    def test_ahead_of_all_else(self):
        road = Road(((1, 1),))
        for lengths, most, number in (((4, 2), 3, 0), ((2, 4), 3, 1), ((2, 4, 5), 3, 1), ((30, 31), 30, 1), ((31,), 30, 0)):
            talk = Talk(lengths, ((1, 2),) * len(lengths))
            named = {} if most == 30 else {"most": most}
            for bounds in ({}, {"steps": 0}, {"switches": 0, "wait": 2}):
                with self.assertRaises(NoRoom) as caught:
                    best_plan(talk, road, ((1, 1), 0, 0, 0), **bounds, **named)
                self.assertIs(type(caught.exception), NoRoom)
                self.assertEqual(caught.exception.thing, number)

    def test_just_as_long_is_not_refused(self):
        talk = Talk((4, 2), ((1, 2),) * 2)
        self.assertEqual(len(best_plan(talk, Road(((1, 1),)), ((1, 1), 0, 0, 0), most=4)[0]), 2)
        talk = Talk((30,), ((1, 2),))
        self.assertEqual(len(best_plan(talk, Road(((1, 1),)), ((1, 1), 0, 0, 0))[0]), 1)


if __name__ == "__main__":
    unittest.main()
