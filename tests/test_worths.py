"""Worths of runs, and bounds of plans."""

import itertools
import unittest

from rateplan import worths
from rateplan.roads import Road
from rateplan.runs import run_of
from rateplan.talks import Talk
from rateplan.worths import in_bounds, worth_of
from tests.walks import Walk, some_walks


class WorthOfTest(unittest.TestCase):

    def setUp(self):
        # Two ahead of the first play, a stall of nine beats, steps of one rate up and one down.
        self.talk = Talk((2, 2, 2), ((2, 4), (2, 9), (2, 4)))
        self.run_ = run_of(self.talk, Road(((1, 1),)), (0, 1, 0), begin=1, again=3)

    def assert_worth(self, number, terms):
        self.assertEqual(worth_of(self.talk, self.run_, terms), number, terms)

    def test_defined_here(self):
        self.assertEqual(worths.worth_of.__module__, "rateplan.worths")
        self.assertEqual(worths.in_bounds.__module__, "rateplan.worths")

    def test_each_term_by_itself(self):
        self.assertEqual((self.run_.plays[0], self.run_.stalls), (2, ((4, 9),)))
        self.assert_worth(0, ((0, 0), 0, 0, 0))
        self.assert_worth(4, ((1, 0), 0, 0, 0))
        self.assert_worth(2, ((0, 1), 0, 0, 0))
        self.assert_worth(-2, ((0, 0), 1, 0, 0))
        self.assert_worth(-9, ((0, 0), 0, 1, 0))
        self.assert_worth(-2, ((0, 0), 0, 0, 1))

    def test_all_together_and_either_sign(self):
        self.assert_worth(4 * 7 + 2 * 11 - 2 * 3 - 9 * 5 - 2 * 2, ((7, 11), 3, 5, 2))
        self.assert_worth(4 * -7 + 2 * 11 - 2 * 3 - 9 * 5 - 2 * 2, ((-7, 11), 3, 5, 2))
        self.assert_worth(-6, ((-1, -1), 0, 0, 0))
        much = 10 ** 6
        self.assert_worth(much * (6 - 2 - 9 - 2), ((much, much), much, much, much))
        self.assert_worth(much * (-6 - 2 - 9 - 2), ((-much, -much), much, much, much))

    def test_change_counts_each_step_of_rate(self):
        talk = Talk((1, 1, 1, 1), ((1, 1, 1, 1),) * 4)
        for plan, steps in (
            ((0, 0, 0, 0), 0), ((3, 3, 3, 3), 0), ((0, 1, 0, 1), 3), ((0, 3, 0, 3), 9), ((3, 0, 0, 2), 5), ((0, 1, 2, 3), 3),
            ((3, 2, 1, 0), 3), ((2, 2, 2, 0), 2),
        ):
            run = run_of(talk, Road(((1, 9),)), plan)
            self.assertEqual(worth_of(talk, run, ((0, 0, 0, 0), 5, 0, 0)), -5 * steps)

    def test_beats_ahead_of_the_first_play(self):
        talk = Talk((1,), ((7,),))
        for speed, ahead in ((7, 1), (6, 2), (1, 7)):
            run = run_of(talk, Road(((1, speed),)), (0,))
            self.assertEqual(worth_of(talk, run, ((0,), 0, 100, 3)), -3 * ahead)
        run = run_of(talk, Road(((1, 7),)), (0,), wait=4)
        self.assertEqual(worth_of(talk, run, ((0,), 0, 100, 3)), -15)

    def test_of_a_live_talk(self):
        talk = Talk((2, 2), ((2,), (2,)))
        run = run_of(talk, Road(((1, 1),)), (0, 0), begin=1, opens=(3, 10))
        # Fetched in the beats 3 and 4, played in 5 and 6, then a stall from 7 to 11.
        self.assertEqual(worth_of(talk, run, ((0,), 0, 1, 0)), -5)
        self.assertEqual(worth_of(talk, run, ((0,), 0, 0, 1)), -5)

    def test_against_walks(self):
        terms = ((3, -5, 7, 10 ** 6), 11, 13, 17)
        for talk, road, plan, options in some_walks(61, 200):
            walk = Walk(talk, road, plan, **options)
            due = 0
            for number, rate in enumerate(plan):
                due += terms[0][rate] * talk.lengths[number]
                due -= terms[1] * abs(rate - plan[number - 1]) if number else 0
            due -= terms[2] * len(walk.stalls) + terms[3] * len(range(walk.plays[0]))
            run = run_of(talk, road, plan, **options)
            self.assertEqual(worth_of(talk, run, terms), due)
            self.assertEqual(worth_of(talk, run, terms), due)
            self.assertEqual(run, run_of(talk, road, plan, **options))


class InBoundsTest(unittest.TestCase):

    def test_none_lets_any(self):
        for plan in itertools.product(range(4), repeat=3):
            self.assertIs(in_bounds(plan), True)
            self.assertIs(in_bounds(plan, steps=None, switches=None), True)

    def test_steps_at_the_bound_and_one_beyond(self):
        for plan, greatest in (((0, 0, 0), 0), ((1, 0, 1), 1), ((0, 2, 1), 2), ((3, 2, 0), 2), ((3, 3, 0), 3), ((0, 3), 3)):
            for steps in range(5):
                self.assertIs(in_bounds(plan, steps=steps), greatest <= steps, (plan, steps))
            self.assertIs(in_bounds(plan, steps=100), True)

    def test_switches_at_the_bound_and_one_beyond(self):
        for plan, many in (((0, 0, 0), 0), ((1, 0, 0), 1), ((0, 0, 3), 1), ((1, 0, 1), 2), ((0, 2, 3, 3, 1), 3)):
            for switches in range(5):
                self.assertIs(in_bounds(plan, switches=switches), many <= switches, (plan, switches))
            self.assertIs(in_bounds(plan, switches=100), True)

    def test_both_in_any_order(self):
        plan = (0, 2, 2, 1)
        self.assertIs(in_bounds(plan, steps=2, switches=2), True)
        self.assertIs(in_bounds(plan, switches=2, steps=2), True)
        self.assertIs(in_bounds(plan, steps=1, switches=2), False)
        self.assertIs(in_bounds(plan, steps=2, switches=1), False)
        self.assertIs(in_bounds(plan, steps=1, switches=1), False)

    def test_plans_of_one_stretch(self):
        for rate in range(4):
            self.assertIs(in_bounds((rate,), steps=0, switches=0), True)

    def test_all_plans(self):
        for many in range(1, 6):
            for plan in itertools.product(range(3), repeat=many):
                steps = [abs(plan[at] - plan[at - 1]) for at in range(1, many)]
                switches = sum(1 for step in steps if step)
                for most in (None, 0, 1, 2, 3):
                    for times in (None, 0, 1, 2, 3, 4):
                        due = (most is None or all(step <= most for step in steps)) and (times is None or switches <= times)
                        self.assertIs(in_bounds(plan, steps=most, switches=times), due)

    def test_twelve_rates(self):
        self.assertIs(in_bounds((0, 3) * 6, steps=3, switches=11), True)
        self.assertIs(in_bounds((0, 3) * 6, steps=2, switches=11), False)
        self.assertIs(in_bounds((0, 3) * 6, steps=3, switches=10), False)


if __name__ == "__main__":
    unittest.main()
