"""Kinds of roads: which tuples of speeds are roads of a kind."""

import itertools
import random
import time
import unittest

from rateplan import kinds
from rateplan.kinds import is_of_kind
from tests.machines import let
from tests.samples import changed_parts, things_of_any_kind


def all_kinds(slow=1, fast=3):
    """Kinds of all widths, with as many slow ones each as there may be."""
    return [(slow, fast, many, wide) for wide in range(1, 7) for many in range(wide)]


class KindsTest(unittest.TestCase):

    def assert_told(self, told, kind, thing):
        self.assertIs(is_of_kind(kind, thing), told, (kind, thing))

    def test_defined_here(self):
        self.assertEqual(kinds.is_of_kind.__module__, "rateplan.kinds")

    def test_by_hand(self):
        kind = (1, 4, 2, 4)
        for road in ((), (1,), (4,), (1, 1), (1, 1, 4, 4, 1, 1), (4, 1, 4, 1), (1, 4, 4, 1, 1, 4, 4), (4, 4, 1, 1, 4)):
            self.assert_told(True, kind, road)
        for road in ((1, 1, 1), (1, 1, 4, 1), (4, 1, 1, 4, 1), (1, 4, 1, 1), (4, 4, 4, 1, 4, 1, 1), (2,), (4, 4, 3)):
            self.assert_told(False, kind, road)

    def test_none_at_all(self):
        for kind in all_kinds():
            self.assert_told(True, kind, ())

    def test_none_slow(self):
        for kind in all_kinds():
            for many in range(1, 9):
                self.assert_told(True, kind, (3,) * many)

    def test_where_none_may_be_slow(self):
        for wide in range(1, 7):
            self.assert_told(True, (1, 3, 0, wide), (3, 3))
            for road in ((1,), (1, 3), (3, 1), (3, 1, 3), (3, 3, 3, 3, 3, 3, 3, 1)):
                self.assert_told(False, (1, 3, 0, wide), road)

    def test_just_so_many_and_one_more_in_every_window(self):
        for kind in all_kinds():
            slow, fast, many, wide = kind
            for ahead in range(wide + 2):
                for behind in range(wide + 2):
                    # Set in all ways into one window, with fast ones about it.
                    for marks in itertools.product((slow, fast), repeat=wide):
                        road = (fast,) * ahead + marks + (fast,) * behind
                        self.assert_told(marks.count(slow) <= many, kind, road)

    def test_slow_again_as_soon_as_it_may_be(self):
        for slow, fast, many, wide in all_kinds():
            if many:
                turn = (slow,) * many + (fast,) * (wide - many)
                self.assert_told(True, (slow, fast, many, wide), turn * 5)
                self.assert_told(True, (slow, fast, many, wide), turn * 5 + (slow,) * many)
                self.assert_told(False, (slow, fast, many, wide), turn * 5 + (slow,) * (many + 1))
                # One fast beat fewer, so that the next slow one comes too soon.
                self.assert_told(False, (slow, fast, many, wide), turn[:-1] + (slow,))

    def test_all_short_roads(self):
        for kind in all_kinds(0, 2):
            for many in range(9):
                for road in itertools.product((0, 2), repeat=many):
                    self.assert_told(let(kind, road), kind, road)

    def test_long_roads(self):
        dice = random.Random(91)
        for kind in all_kinds(5, 900):
            for _ in range(20):
                road = tuple(dice.choice((5, 900, 900)) for _ in range(dice.randint(5, 40)))
                self.assert_told(let(kind, road), kind, road)

    def test_in_good_time(self):
        begun = time.process_time()
        self.assert_told(True, (0, 1, 5, 6), (0, 0, 0, 0, 0, 1) * 3300)
        self.assert_told(False, (0, 1, 5, 6), (0, 0, 0, 0, 0, 1) * 3300 + (0,) * 6)
        self.assertLess(time.process_time() - begun, 2)

    def test_numbers_that_are_neither(self):
        for number in (-1, 0, 2, 4, 10 ** 39, -10 ** 39):
            self.assert_told(False, (1, 3, 1, 2), (number,))
            self.assert_told(False, (1, 3, 1, 2), (3, number, 3))

    def test_truths_are_no_numbers(self):
        self.assert_told(True, (0, 1, 1, 2), (0, 1))
        for road in ((False,), (True,), (0, True), (False, 1), (1, 1, 1, True), (True, False)):
            self.assert_told(False, (0, 1, 1, 2), road)

    def test_parts_of_other_kinds(self):
        for kind in ((0, 1, 1, 2), (1, 4, 2, 4)):
            road = (kind[0], kind[1], kind[1], kind[0])
            self.assert_told(True, kind, road)
            for thing in changed_parts(road):
                self.assert_told(type(thing) is tuple and not [part for part in thing if type(part) is not int]
                                 and let(kind, thing), kind, thing)
            for part in things_of_any_kind() + ["", "1", 1 << 130]:
                self.assert_told(False, kind, (kind[1], part))

    def test_things_of_other_kinds(self):
        for kind in ((0, 1, 1, 2), (1, 4, 2, 4), (0, 3, 0, 1)):
            for thing in things_of_any_kind() + [0, 1, 4, -1, 10 ** 39, "", "1", "x" * 4000, {1: 4}, [4, 4], range(0)]:
                told = type(thing) is tuple and all(type(part) is int for part in thing) and let(kind, thing)
                before = repr(thing)
                self.assert_told(told, kind, thing)
                self.assertEqual(repr(thing), before)

    def test_told_again_the_same(self):
        road = (1, 4, 4, 1)
        self.assertIs(is_of_kind((1, 4, 1, 3), road), is_of_kind((1, 4, 1, 3), road))
        self.assertEqual(road, (1, 4, 4, 1))


if __name__ == "__main__":
    unittest.main()
