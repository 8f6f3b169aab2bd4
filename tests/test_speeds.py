"""Speeds: fields, ==, str, below, floor, much; mean, middle, slowest."""

import fractions
import itertools
import random
import unittest

from rateplan import speeds
from rateplan.errors import NoSpeed
from rateplan.speeds import Speed, mean, middle, slowest
from tests.samples import things_of_any_kind


class LikeASpeed:
    """Has a speed's fields, and is none."""

    def __init__(self, bits, beats):
        self.bits = bits
        self.beats = beats


def pairs():
    """Bits and beats from the least ones to the bounds."""
    dice = random.Random(11)
    told = list(itertools.product((0, 1, 2, 3, 4, 6), (1, 2, 3, 4, 6)))
    told += [(10 ** 6, 1), (10 ** 6, 10 ** 4), (0, 10 ** 4), (1, 10 ** 4), (999999, 9999), (10 ** 6, 9999), (999999, 10 ** 4)]
    return told + [(dice.randint(0, 10 ** 6), dice.randint(1, 10 ** 4)) for _ in range(20)]


def part_of(pair):
    return fractions.Fraction(pair[0], pair[1])


def fields_of(speed):
    return (speed.bits, speed.beats)


def made(rows):
    return tuple(Speed(bits, beats) for bits, beats in rows)


class SpeedTest(unittest.TestCase):

    def test_fields_stay_as_handed_in(self):
        for bits, beats in pairs():
            speed = Speed(bits, beats)
            str(speed), speed.floor(), speed.much(3), speed == Speed(1, 2), speed.below(Speed(1, 2))
            self.assertEqual(fields_of(speed), (bits, beats))
            self.assertEqual(set(vars(speed)), {"bits", "beats"})

    def test_interface_stands_here(self):
        for name in ("__init__", "__eq__", "__str__", "below", "floor", "much"):
            self.assertIn(name, vars(Speed))
        for name in ("Speed", "mean", "middle", "slowest"):
            self.assertEqual(getattr(speeds, name).__module__, "rateplan.speeds")

    def test_equal_and_below_by_hand(self):
        self.assertTrue(Speed(4, 2) == Speed(2, 1))
        self.assertTrue(Speed(0, 2) == Speed(0, 7))
        self.assertFalse(Speed(4, 2) != Speed(2, 1))
        self.assertFalse(Speed(4, 2) == Speed(2, 4))
        self.assertTrue(Speed(4, 2) != Speed(3, 1))
        self.assertIs(Speed(1, 3).below(Speed(1, 2)), True)
        self.assertIs(Speed(1, 2).below(Speed(1, 3)), False)
        self.assertIs(Speed(2, 4).below(Speed(1, 2)), False)

    def test_equal_and_below_as_parts_of_numbers(self):
        for one in pairs():
            for other in pairs():
                speed, second = Speed(*one), Speed(*other)
                self.assertIs(speed == second, part_of(one) == part_of(other))
                self.assertIs(speed != second, part_of(one) != part_of(other))
                self.assertIs(speed.below(second), part_of(one) < part_of(other))

    def test_nothing_else_is_equal(self):
        speed = Speed(2, 1)
        others = things_of_any_kind() + [
            0, 1, 2, -2, "", "2/1", str(speed), (2, 1), [2, 1], {2: 1}, fractions.Fraction(2), LikeASpeed(2, 1), Speed,
        ]
        for other in others:
            self.assertIs(speed == other, False)
            self.assertIs(other == speed, False)
            self.assertIs(speed != other, True)
            self.assertIs(other != speed, True)

    def test_str(self):
        for pair, told in (
            ((4, 2), "2/1"), ((2, 4), "1/2"), ((3, 7), "3/7"), ((0, 5), "0/1"), ((0, 1), "0/1"), ((1, 1), "1/1"),
            ((6, 4), "3/2"), ((10 ** 6, 10 ** 4), "100/1"), ((10, 10 ** 4), "1/1000"), ((999999, 9999), "10101/101"),
        ):
            self.assertEqual(str(Speed(*pair)), told)
        for pair in pairs():
            part = part_of(pair)
            self.assertEqual(f"{Speed(*pair)}", str(part.numerator) + "/" + str(part.denominator))

    def test_floor(self):
        self.assertEqual([Speed(bits, 3).floor() for bits in range(8)], [0, 0, 0, 1, 1, 1, 2, 2])
        for bits, beats in pairs():
            self.assertEqual(Speed(bits, beats).floor(), bits // beats)
            self.assertIs(type(Speed(bits, beats).floor()), int)

    def test_much(self):
        self.assertEqual([Speed(5, 3).much(beats) for beats in range(7)], [0, 1, 3, 5, 6, 8, 10])
        for bits, beats in pairs():
            for many in (0, 1, 2, 3, 400, 9999, 10 ** 4):
                told = Speed(bits, beats).much(many)
                part = part_of((bits, beats)) * many
                self.assertEqual(told, part.numerator // part.denominator)
            self.assertEqual(Speed(bits, beats).much(beats), bits)


class MeanTest(unittest.TestCase):

    def test_by_hand(self):
        rows = made([(4, 2), (1, 1), (6, 3)])
        self.assertEqual(fields_of(mean(rows)), (11, 6))
        self.assertEqual(fields_of(mean(rows, last=None)), (11, 6))
        self.assertEqual(fields_of(mean(rows, last=1)), (6, 3))
        self.assertEqual(fields_of(mean(rows, last=2)), (7, 4))
        self.assertEqual(fields_of(mean(rows, last=3)), (11, 6))
        self.assertEqual(fields_of(mean(rows, last=4)), (11, 6))
        self.assertEqual(fields_of(mean(rows, last=100)), (11, 6))

    def test_all_bits_and_all_beats(self):
        rows = (pairs() * 2)[:40]
        for many in range(1, 41):
            for last in (None, 1, 2, many - 1, many, many + 1, 100):
                if last == 0:
                    continue
                taken = rows[:many] if last is None else rows[max(0, many - last):many]
                told = mean(made(rows[:many]), last=last)
                self.assertIs(type(told), Speed)
                self.assertEqual(fields_of(told), (sum(row[0] for row in taken), sum(row[1] for row in taken)))

    def test_of_none(self):
        for last in (None, 1, 2, 100):
            with self.assertRaises(NoSpeed) as caught:
                mean((), last=last)
            self.assertIs(type(caught.exception), NoSpeed)
        self.assertRaises(NoSpeed, mean, ())

    def test_of_no_bits_is_a_speed(self):
        self.assertEqual(fields_of(mean(made([(0, 2), (0, 3)]))), (0, 5))

    def test_what_was_told_is_handed_in_again(self):
        told = mean(made([(10 ** 6, 10 ** 4)] * 40))
        self.assertEqual(fields_of(told), (4 * 10 ** 7, 4 * 10 ** 5))
        for _ in range(30):
            told = mean((told,) * 40)
        self.assertEqual(fields_of(told), (40 ** 31 * 10 ** 6, 40 ** 31 * 10 ** 4))
        self.assertEqual(str(told), "100/1")
        self.assertEqual(told.floor(), 100)
        self.assertEqual(told.much(told.much(7)), 70000)
        self.assertTrue(told == Speed(100, 1))
        self.assertIs(middle((Speed(1, 1), told, Speed(101, 1))), told)
        self.assertIs(slowest((Speed(101, 1), told)), told)

    def test_one_of_one_is_no_second_name_for_it(self):
        speed = Speed(3, 2)
        told = mean((speed,))
        self.assertIsNot(told, speed)
        self.assertEqual(fields_of(told), (3, 2))


class MiddleTest(unittest.TestCase):

    def test_by_hand(self):
        self.assertEqual(fields_of(middle(made([(3, 1)]))), (3, 1))
        self.assertEqual(fields_of(middle(made([(3, 1), (1, 1), (2, 1)]))), (2, 1))
        self.assertEqual(fields_of(middle(made([(3, 1), (1, 1)]))), (1, 1))
        self.assertEqual(fields_of(middle(made([(1, 1), (3, 1)]))), (1, 1))
        self.assertEqual(fields_of(middle(made([(4, 1), (1, 1), (3, 1), (2, 1)]))), (2, 1))
        self.assertEqual(fields_of(middle(made([(1, 3), (1, 2), (2, 5)]))), (2, 5))

    def test_alike_ones_in_their_order(self):
        for rows, told in (
            ([(2, 1), (4, 2), (6, 3)], (4, 2)),
            ([(6, 3), (2, 1), (4, 2)], (2, 1)),
            ([(4, 2), (2, 1)], (4, 2)),
            ([(2, 1), (4, 2)], (2, 1)),
            ([(4, 2), (2, 1), (1, 1)], (4, 2)),
            ([(4, 2), (2, 1), (5, 1)], (2, 1)),
            ([(5, 1), (4, 2), (2, 1), (1, 1)], (4, 2)),
            ([(0, 3), (0, 1), (0, 2)], (0, 1)),
        ):
            self.assertEqual(fields_of(middle(made(rows))), told)

    def test_each_order_of_some(self):
        rows = [(2, 1), (4, 2), (1, 3), (5, 2), (0, 1)]
        for many in range(1, 6):
            for order in itertools.permutations(rows, many):
                handed = made(order)
                told = middle(handed)
                self.assertEqual(fields_of(told), sorted(order, key=part_of)[(many - 1) // 2])
                self.assertTrue(any(told is speed for speed in handed))
                self.assertEqual([fields_of(speed) for speed in handed], list(order))

    def test_forty_of_them(self):
        dice = random.Random(2)
        for many in (39, 40):
            for _ in range(20):
                rows = [dice.choice(pairs()) for _ in range(many)]
                self.assertEqual(fields_of(middle(made(rows))), sorted(rows, key=part_of)[(many - 1) // 2])

    def test_speeds_that_are_nearly_alike(self):
        rows = [(999999, 10 ** 4), (10 ** 6, 10 ** 4), (999900, 9999)]
        for order in itertools.permutations(rows):
            self.assertEqual(fields_of(middle(made(order))), sorted(order, key=part_of)[1])


class SlowestTest(unittest.TestCase):

    def test_by_hand(self):
        rows = made([(3, 1), (1, 2), (1, 1), (2, 4)])
        self.assertIs(slowest(rows), rows[1])
        self.assertIs(slowest(rows, key=None), rows[1])
        self.assertIs(slowest(rows, key=lambda speed: speed.bits), rows[1])
        self.assertIs(slowest(rows, key=lambda speed: -speed.bits), rows[0])
        self.assertIs(slowest(rows, key=lambda speed: -speed.beats), rows[3])
        self.assertIs(slowest(rows, key=lambda speed: 0), rows[0])
        self.assertIs(slowest(rows, key=Speed.floor), rows[1])
        self.assertIs(slowest(rows[:1]), rows[0])
        self.assertIs(slowest(rows[:1], key=lambda speed: 7), rows[0])

    def test_of_alike_ones_the_first(self):
        for order in itertools.permutations([(2, 1), (4, 2), (6, 3), (5, 1)]):
            handed = made(order)
            due = next(speed for speed in handed if speed == Speed(2, 1))
            self.assertIs(slowest(handed), due)
            self.assertIs(slowest(handed, key=lambda speed: speed.bits // speed.beats), due)

    def test_forty_of_them(self):
        dice = random.Random(4)
        for _ in range(40):
            rows = [dice.choice(pairs()) for _ in range(40)]
            handed = made(rows)
            self.assertEqual(fields_of(slowest(handed)), min(rows, key=part_of))
            self.assertEqual(fields_of(slowest(handed, key=lambda speed: speed.beats)), min(rows, key=lambda row: row[1]))
            self.assertEqual(fields_of(slowest(handed, key=lambda speed: -speed.much(3))),
                             max(rows, key=lambda row: 3 * row[0] // row[1]))
            self.assertEqual([fields_of(speed) for speed in handed], rows)

    def test_numbers_of_many_figures(self):
        rows = made([(3, 1), (1, 2), (5, 1)])
        self.assertIs(slowest(rows, key=lambda speed: 10 ** 40 - speed.bits), rows[2])


if __name__ == "__main__":
    unittest.main()
