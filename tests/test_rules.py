"""Rules: by_store, by_speed, calm: what each tells of a seen, and in runs."""

import fractions
import random
import unittest

from rateplan import rules
from rateplan.roads import Road
from rateplan.rules import by_speed, by_store, calm
from rateplan.runs import run_of
from rateplan.speeds import Speed
from rateplan.talks import Talk
from tests.samples import things_of_any_kind
from tests.walks import Walk, some_walks


def seen_of(number=0, kept=0, rate=None, speed=None):
    return (number, kept, rate, speed)


class RulesTest(unittest.TestCase):

    def assert_as_walked(self, rule, seed):
        for talk, road, _, options in some_walks(seed, 40):
            run = run_of(talk, road, rule(talk), **options)
            walk = Walk(talk, road, rule(talk), **options)
            self.assertEqual((run.rates, run.plays, run.kept), (tuple(walk.rates), tuple(walk.plays), tuple(walk.kept)))

    def test_all_are_defined_here(self):
        for name in ("by_store", "by_speed", "calm"):
            self.assertEqual(getattr(rules, name).__module__, "rateplan.rules")


class ByStoreTest(RulesTest):

    def test_below_at_between_and_above_the_steps(self):
        rule = by_store((3, 7, 8))
        for kept, told in ((0, 0), (1, 0), (2, 0), (3, 1), (4, 1), (6, 1), (7, 2), (8, 3), (9, 3), (400, 3)):
            self.assertEqual(rule(seen_of(kept=kept)), told)
            self.assertIs(type(rule(seen_of(kept=kept))), int)

    def test_steps_at_nought_below_it_and_none(self):
        self.assertEqual([by_store((0, 1))(seen_of(kept=kept)) for kept in range(3)], [1, 2, 2])
        self.assertEqual([by_store((-5, 0, 2))(seen_of(kept=kept)) for kept in range(3)], [2, 2, 3])
        self.assertEqual([by_store(())(seen_of(kept=kept)) for kept in range(3)], [0, 0, 0])
        self.assertEqual(by_store((100,))(seen_of(kept=99)), 0)
        self.assertEqual(by_store((100,))(seen_of(kept=100)), 1)

    def test_nothing_else_of_what_is_seen_counts(self):
        rule = by_store((2, 4))
        for number in (0, 3, 11):
            for rate in (None, 0, 3):
                for speed in (None, Speed(0, 1), Speed(9, 2)):
                    self.assertEqual([rule((number, kept, rate, speed)) for kept in (1, 2, 4)], [0, 1, 2])

    def test_two_rules_share_nothing(self):
        one, other = by_store((1,)), by_store((5,))
        self.assertEqual((one(seen_of(kept=3)), other(seen_of(kept=3))), (1, 0))
        self.assertEqual((one(seen_of(kept=3)), other(seen_of(kept=3))), (1, 0))

    def test_in_runs(self):
        talk = Talk((4, 4, 4, 4), ((4, 8, 12),) * 4)
        self.assertEqual(run_of(talk, Road(((1, 8),)), by_store((4, 7)), begin=20).rates, (0, 1, 2, 2))
        self.assert_as_walked(lambda talk: by_store((2, 5, 9)), 51)

    def test_a_number_beyond_the_rates_is_rate_nought_in_a_run(self):
        talk = Talk((4, 4), ((4, 8),) * 2)
        self.assertEqual(run_of(talk, Road(((1, 8),)), by_store((1, 2)), begin=20).rates, (0, 0))
        self.assertEqual(run_of(talk, Road(((1, 8),)), by_store((1,)), begin=20).rates, (0, 1))


class BySpeedTest(RulesTest):

    def told(self, talk, number, part, bits, beats):
        """The greatest rate that comes in time, by parts of numbers."""
        speed = fractions.Fraction(*part) * fractions.Fraction(bits, beats)
        fit = [rate for rate, size in enumerate(talk.sizes[number]) if speed and size / speed <= talk.lengths[number]]
        return fit[-1] if fit else 0

    def test_by_hand_with_the_part_left_out(self):
        talk = Talk((4, 10), ((8, 16, 32), (8, 16, 32)))
        rule = by_speed(talk)
        for number, speed, told in (
            (0, Speed(5, 1), 1), (0, Speed(10, 1), 2), (0, Speed(99, 10), 1), (0, Speed(25, 10), 0), (0, Speed(49, 10), 0),
            (0, Speed(50, 10), 1), (0, Speed(1, 1), 0), (0, Speed(0, 1), 0), (1, Speed(2, 1), 1), (1, Speed(4, 1), 2),
            (1, Speed(399, 100), 1), (1, Speed(0, 9), 0),
        ):
            self.assertEqual(rule(seen_of(number=number, rate=0, speed=speed)), told, (number, str(speed)))
            self.assertEqual(by_speed(talk, part=(4, 5))(seen_of(number=number, rate=0, speed=speed)), told)

    def test_no_last_speed(self):
        talk = Talk((4,), ((1, 1, 1),))
        self.assertEqual(by_speed(talk)(seen_of()), 0)
        self.assertEqual(by_speed(talk, part=(100, 1))(seen_of(kept=9)), 0)

    def test_part_of_nought_and_tops_above_bottoms(self):
        talk = Talk((4,), ((4, 8, 16),))
        for speed in (Speed(0, 1), Speed(1, 1), Speed(10 ** 6, 1)):
            self.assertEqual(by_speed(talk, part=(0, 1))(seen_of(rate=0, speed=speed)), 0)
        self.assertEqual(by_speed(talk, part=(1, 1))(seen_of(rate=0, speed=Speed(2, 1))), 1)
        self.assertEqual(by_speed(talk, part=(2, 1))(seen_of(rate=0, speed=Speed(2, 1))), 2)
        self.assertEqual(by_speed(talk, part=(100, 100))(seen_of(rate=0, speed=Speed(2, 1))), 1)
        self.assertEqual(by_speed(talk, part=(100, 1))(seen_of(rate=0, speed=Speed(1, 25))), 2)
        self.assertEqual(by_speed(talk, part=(100, 1))(seen_of(rate=0, speed=Speed(0, 25))), 0)
        self.assertEqual(by_speed(talk, part=(1, 100))(seen_of(rate=0, speed=Speed(100, 1))), 0)
        self.assertEqual(by_speed(talk, part=(1, 100))(seen_of(rate=0, speed=Speed(200, 1))), 1)

    def test_bits_that_do_not_rise_by_the_rate(self):
        talk = Talk((4, 4, 4), ((16, 8, 4), (8, 16, 8), (4, 16, 4)))
        rule = by_speed(talk, part=(1, 1))
        self.assertEqual([rule(seen_of(number, 0, 0, Speed(1, 1))) for number in range(3)], [2, 0, 2])
        self.assertEqual([rule(seen_of(number, 0, 0, Speed(2, 1))) for number in range(3)], [2, 2, 2])
        self.assertEqual([rule(seen_of(number, 0, 0, Speed(4, 1))) for number in range(3)], [2, 2, 2])
        back = by_speed(Talk((4,), ((4, 2, 16),)), part=(1, 1))
        self.assertEqual(back(seen_of(0, 0, 0, Speed(1, 1))), 1)

    def test_just_in_time_and_one_bit_less(self):
        talk = Talk((7, 20), ((3, 10, 21, 1000), (1, 50, 500, 1000)))
        for part in ((4, 5), (1, 1), (7, 3), (99, 100)):
            for number in (0, 1):
                for rate, size in enumerate(talk.sizes[number]):
                    # At size * bottom bits in top * length beats the part of the speed is just enough.
                    bits, beats = size * part[1], part[0] * talk.lengths[number]
                    for speed in (Speed(bits, beats), Speed(3 * bits, 3 * beats)):
                        self.assertEqual(by_speed(talk, part=part)(seen_of(number, 0, 0, speed)), rate)
                    less = by_speed(talk, part=part)(seen_of(number, 0, 0, Speed(bits - 1, beats)))
                    self.assertEqual(less, max(0, rate - 1))

    def test_against_parts_of_numbers(self):
        dice = random.Random(52)
        for talk, _, _, _ in some_walks(53, 100):
            for _ in range(10):
                number = dice.randrange(len(talk.lengths))
                part = (dice.randint(0, 100), dice.randint(1, 100))
                bits, beats = dice.randint(0, 60), dice.randint(1, 30)
                seen = seen_of(number, dice.randint(0, 30), 0, Speed(bits, beats))
                self.assertEqual(by_speed(talk, part=part)(seen), self.told(talk, number, part, bits, beats))

    def test_in_runs(self):
        self.assert_as_walked(by_speed, 54)
        self.assert_as_walked(lambda talk: by_speed(talk, part=(3, 2)), 55)

    def test_what_is_handed_in_stays(self):
        talk = Talk((4, 2), ((4, 8), (2, 3)))
        speed = Speed(6, 4)
        rule = by_speed(talk)
        for _ in range(2):
            self.assertEqual(rule(seen_of(0, 0, 0, speed)), 0)
        self.assertEqual(((speed.bits, speed.beats), talk), ((6, 4), Talk((4, 2), ((4, 8), (2, 3)))))


class CalmTest(RulesTest):

    def test_at_most_one_from_the_rate_chosen_last(self):
        for last in range(4):
            for told in range(-8, 12):
                due = min((last - 1, last, last + 1), key=lambda number: abs(number - told))
                self.assertEqual(calm(lambda seen: told)(seen_of(rate=last)), due, (last, told))

    def test_below_nought_and_beyond_the_rates(self):
        self.assertEqual(calm(lambda seen: -1)(seen_of(rate=0)), -1)
        self.assertEqual(calm(lambda seen: -7)(seen_of(rate=0)), -1)
        self.assertEqual(calm(lambda seen: 9)(seen_of(rate=3)), 4)
        self.assertEqual(calm(lambda seen: 10 ** 39)(seen_of(rate=3)), 4)

    def test_none_chosen_yet(self):
        for told in (-10 ** 39, -1, 0, 1, 3, 4, 10 ** 39):
            self.assertEqual(calm(lambda seen: told)(seen_of()), told)

    def test_a_rule_that_tells_no_whole_number(self):
        for thing in things_of_any_kind() + ["", "2", "a", Speed(2, 1), (2,), (), True, False, None]:
            self.assertEqual(calm(lambda seen: thing)(seen_of()), 0)
            self.assertIs(type(calm(lambda seen: thing)(seen_of())), int)
            self.assertEqual([calm(lambda seen: thing)(seen_of(rate=last)) for last in range(4)], [0, 0, 1, 2])
            for last in range(4):
                self.assertIs(type(calm(lambda seen: thing)(seen_of(rate=last))), int)

    def test_the_rule_is_shown_what_is_seen(self):
        shown = []
        seen = seen_of(3, 7, 2, Speed(4, 2))
        calm(lambda each: shown.append(each) or 2)(seen)
        self.assertEqual(shown, [seen])

    def test_a_calm_one_of_a_calm_one(self):
        rule = calm(calm(by_store((1, 2, 3))))
        self.assertEqual([rule(seen_of(kept=9, rate=last)) for last in (None, 0, 1, 2, 3)], [3, 1, 2, 3, 3])

    def test_in_runs(self):
        talk = Talk((4,) * 6, ((4, 8, 12, 16),) * 6)
        road = Road(((1, 16),))
        told = [3, 0, 0, 3, 3, 3]
        self.assertEqual(run_of(talk, road, calm(lambda seen: told[seen[0]]), most=400).rates, (3, 2, 1, 2, 3, 3))
        # From rate 0 one below is told, and taken for 0.
        self.assertEqual(run_of(talk, road, calm(lambda seen: -1), most=400).rates, (0,) * 6)
        # One above the greatest rate is told, and taken for 0.
        self.assertEqual(run_of(talk, road, calm(lambda seen: 9), most=400).rates, (0, 1, 2, 3, 0, 1))
        self.assert_as_walked(lambda each: calm(by_store((2, 5, 9))), 56)
        self.assert_as_walked(lambda each: calm(by_speed(each)), 57)
        self.assert_as_walked(lambda each: calm(lambda seen: None), 58)

    def test_the_rule_is_asked_once_for_each_stretch(self):
        for talk, road, _, options in some_walks(59, 20):
            asked = []
            run_of(talk, road, calm(lambda seen: asked.append(seen[0]) or seen[1]), **options)
            self.assertEqual(asked, list(range(len(talk.lengths))))


if __name__ == "__main__":
    unittest.main()
