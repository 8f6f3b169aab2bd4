"""Roads: pieces, ==, str, len, speed_at, sum_of, fetched, behind, known."""

import itertools
import random
import unittest

from rateplan import roads
from rateplan.roads import Road, known
from rateplan.speeds import Speed
from tests.samples import things_of_any_kind
from tests.walks import some_road, speeds_of


class LikeARoad:
    """Has a road's field, and is none."""

    def __init__(self, pieces):
        self.pieces = pieces


def small():
    return Road(((3, 2), (2, 0), (1, 5), (4, 3)))


def sample_roads():
    """Roads from the least one to one at each bound, made anew with each call."""
    dice = random.Random(7)
    return [
        Road(((1, 1),)),
        Road(((50, 1000),)),
        small(),
        Road(((1, 0), (1, 1))),
        Road(((50, 0),) * 11 + ((50, 1),)),
        Road(((50, 1000), (50, 999)) * 6),
        Road(tuple((k, 13 - k) for k in range(1, 13))),
    ] + [some_road(dice, 6, 5, 9) for _ in range(20)]


def whole_beat(road, begin, size, wait):
    """The beat behind the one in which a size is whole, counted out beat by beat."""
    speeds = speeds_of(road, begin + wait + size + 700)
    beat = begin + wait
    got = 0
    while got < size:
        got += speeds[beat]
        beat += 1
    return beat


class FieldTest(unittest.TestCase):

    def test_pieces(self):
        road = small()
        self.assertEqual(road.pieces, ((3, 2), (2, 0), (1, 5), (4, 3)))
        self.assertIs(type(road.pieces), tuple)

    def test_pieces_stay_as_handed_in(self):
        pieces = ((2, 1), (3, 1), (1, 4))
        road = Road(pieces)
        for _ in range(2):
            road == small(), len(road), str(road), road.speed_at(4), road.sum_of(0, 9)
            road.fetched(0, 9), road.behind(1), known((1, 2))
            self.assertEqual(road.pieces, ((2, 1), (3, 1), (1, 4)))
        self.assertEqual(pieces, ((2, 1), (3, 1), (1, 4)))
        self.assertEqual(set(vars(road)), {"pieces"})

    def test_interface_stands_in_the_class_itself(self):
        self.assertEqual(Road.__module__, "rateplan.roads")
        self.assertEqual(roads.known.__module__, "rateplan.roads")
        for name in ("__init__", "__len__", "__eq__", "__str__", "speed_at", "sum_of", "fetched", "behind"):
            self.assertIn(name, vars(Road))

    def test_str(self):
        self.assertEqual(str(Road(((1, 1),))), "1x1")
        self.assertEqual(str(small()), "3x2 2x0 1x5 4x3")
        self.assertEqual(str(Road(((2, 7), (3, 7), (50, 1000)))), "2x7 3x7 50x1000")
        for road in sample_roads():
            self.assertEqual(str(road), " ".join(str(beats) + "x" + str(speed) for beats, speed in road.pieces))
            self.assertEqual(f"{road}", str(road))

    def test_len(self):
        self.assertEqual([len(road) for road in sample_roads()[:7]], [1, 50, 10, 2, 600, 600, 78])
        for road in sample_roads():
            self.assertEqual(len(road), sum(beats for beats, _ in road.pieces))


class EqualTest(unittest.TestCase):

    def assert_equal_roads(self, one, other):
        self.assertIs(one == other, True)
        self.assertIs(other == one, True)
        self.assertIs(one != other, False)
        self.assertIs(other != one, False)

    def assert_unequal(self, one, other):
        self.assertIs(one == other, False)
        self.assertIs(other == one, False)
        self.assertIs(one != other, True)
        self.assertIs(other != one, True)

    def test_the_same_pieces(self):
        for one, other in zip(sample_roads(), sample_roads()):
            self.assert_equal_roads(one, other)
            self.assert_equal_roads(one, one)

    def test_the_same_speeds_in_other_pieces(self):
        for other in (
            Road(((1, 2), (2, 2), (2, 0), (1, 5), (4, 3))),
            Road(((2, 2), (1, 2), (2, 0), (1, 5), (4, 3))),
            Road(((1, 2), (1, 2), (1, 2), (1, 0), (1, 0), (1, 5), (1, 3))),
            Road(((3, 2), (2, 0), (1, 5), (1, 3))),
            Road(((3, 2), (2, 0), (1, 5), (50, 3))),
            Road(((3, 2), (2, 0), (1, 5), (4, 3), (7, 3))),
            Road(((3, 2), (1, 0), (1, 0), (1, 5), (1, 3), (1, 3), (1, 3))),
        ):
            self.assert_equal_roads(small(), other)
        self.assertNotEqual(len(small()), len(Road(((3, 2), (2, 0), (1, 5), (1, 3)))))
        self.assert_equal_roads(Road(((1, 4),)), Road(((50, 4), (3, 4))))

    def test_each_parting_of_each_piece(self):
        for road in sample_roads():
            for at, (beats, speed) in enumerate(road.pieces):
                for many in range(1, min(beats, 6)):
                    parted = ((many, speed), (beats - many, speed))
                    self.assert_equal_roads(road, Road(road.pieces[:at] + parted + road.pieces[at + 1:]))

    def test_one_speed_or_one_beat_otherwise(self):
        for other in (
            Road(((3, 2), (2, 0), (1, 5), (4, 4))),
            Road(((3, 1), (2, 0), (1, 5), (4, 3))),
            Road(((3, 2), (2, 1), (1, 5), (4, 3))),
            Road(((3, 2), (2, 0), (2, 5), (4, 3))),
            Road(((2, 2), (2, 0), (1, 5), (4, 3))),
            Road(((3, 2), (3, 0), (1, 5), (4, 3))),
            Road(((3, 2), (2, 0), (1, 5))),
            Road(((3, 2), (2, 0), (1, 5), (4, 3), (1, 2))),
            Road(((2, 0), (3, 2), (1, 5), (4, 3))),
            Road(((4, 3),)),
        ):
            self.assert_unequal(small(), other)

    def test_every_two_small_roads(self):
        pieces = [(beats, speed) for beats in (1, 2, 3) for speed in (0, 1, 2)]
        made = [Road((*head, last)) for many in (0, 1, 2)
                for head in itertools.product(pieces, repeat=many) for last in pieces if last[1] > 0]
        dice = random.Random(3)
        for one, other in zip(made, dice.sample(made, len(made))):
            for end in (one, Road(one.pieces[:-1] + ((9, one.pieces[-1][1]),))):
                self.assertIs(end == other, speeds_of(one, 20) == speeds_of(other, 20))
        for one in dice.sample(made, 60):
            for other in dice.sample(made, 60):
                self.assertIs(one == other, speeds_of(one, 20) == speeds_of(other, 20))

    def test_nothing_else_is_equal(self):
        road = Road(((1, 1),))
        others = things_of_any_kind() + [
            0, 1, -1, "", "1x1", str(road), road.pieces, ((1, 1),), [(1, 1)], {0: road.pieces}, Speed(1, 1),
            LikeARoad(road.pieces), Road,
        ]
        for other in others:
            self.assert_unequal(road, other)

    def test_found_in_a_list_of_like_ones(self):
        self.assertIn(Road(((9, 1),)), [small(), Road(((1, 1),))])
        self.assertNotIn(Road(((9, 2),)), [small(), Road(((1, 1),))])


class SpeedsTest(unittest.TestCase):

    def test_speed_at_by_hand(self):
        self.assertEqual([small().speed_at(beat) for beat in range(12)], [2, 2, 2, 0, 0, 5, 3, 3, 3, 3, 3, 3])
        self.assertEqual(small().speed_at(10000), 3)
        self.assertEqual(Road(((1, 1),)).speed_at(10000), 1)

    def test_speed_at_each_beat(self):
        for road in sample_roads():
            many = len(road) + 30
            self.assertEqual([road.speed_at(beat) for beat in range(many)], speeds_of(road, many))
            self.assertEqual(road.speed_at(10000), road.pieces[-1][1])
            self.assertEqual(road.speed_at(10 ** 39), road.pieces[-1][1])

    def test_sum_of_by_hand(self):
        road = small()
        self.assertEqual(road.sum_of(0, 3), 6)
        self.assertEqual(road.sum_of(1, 2), 2)
        self.assertEqual(road.sum_of(2, 7), 10)
        self.assertEqual(road.sum_of(3, 5), 0)
        self.assertEqual(road.sum_of(0, 10), 23)
        self.assertEqual(road.sum_of(0, 12), 29)
        self.assertEqual(road.sum_of(10, 12), 6)
        self.assertEqual(road.sum_of(20, 30), 30)
        self.assertEqual(road.sum_of(0, 10000), 23 + 3 * 9990)
        self.assertEqual(road.sum_of(10000, 10001), 3)

    def test_sum_of_no_beats(self):
        for road in sample_roads():
            for first, last in ((0, 0), (5, 5), (5, 4), (1, 0), (10000, 10000), (10000, 0), (9, 3), (10000, 9999)):
                self.assertEqual(road.sum_of(first, last), 0)

    def test_sum_of_all_stretches_of_beats(self):
        for road in sample_roads()[2:4] + sample_roads()[7:]:
            speeds = speeds_of(road, 40)
            for first in range(38):
                for last in range(38):
                    self.assertEqual(road.sum_of(first, last), sum(speeds[first:last]))
        for road in sample_roads():
            speeds = speeds_of(road, 700)
            for first, last in ((0, 700), (1, 650), (49, 51), (50, 600), (99, 601), (599, 600), (600, 700)):
                self.assertEqual(road.sum_of(first, last), sum(speeds[first:last]))

    def test_fetched_by_hand(self):
        road = small()
        self.assertEqual(road.fetched(0, 1), 1)
        self.assertEqual(road.fetched(0, 2), 1)
        self.assertEqual(road.fetched(0, 3), 2)
        self.assertEqual(road.fetched(0, 6), 3)
        self.assertEqual(road.fetched(0, 7), 6)
        self.assertEqual(road.fetched(0, 11), 6)
        self.assertEqual(road.fetched(0, 12), 7)
        self.assertEqual(road.fetched(3, 1), 6)
        self.assertEqual(road.fetched(2, 2), 3)
        self.assertEqual(road.fetched(2, 3), 6)
        self.assertEqual(road.fetched(6, 12), 10)
        self.assertEqual(road.fetched(6, 13), 11)
        self.assertEqual(road.fetched(50, 7), 53)

    def test_fetched_with_beats_that_go_by(self):
        road = small()
        self.assertEqual(road.fetched(0, 1, wait=0), 1)
        self.assertEqual(road.fetched(0, 1, wait=2), 3)
        self.assertEqual(road.fetched(0, 1, wait=3), 6)
        self.assertEqual(road.fetched(0, 6, wait=1), 6)
        self.assertEqual(road.fetched(1, 6, wait=400), 403)
        self.assertEqual(road.fetched(wait=4, size=6, begin=1), 7)

    def test_fetched_is_the_first_beat_by_which_all_is_here(self):
        for road in sample_roads()[:4] + sample_roads()[7:]:
            for begin in range(0, 25, 2):
                for size in range(1, 40, 3):
                    for wait in (0, 1, 4):
                        told = road.fetched(begin, size, wait=wait)
                        self.assertEqual(told, whole_beat(road, begin, size, wait))
                        self.assertGreaterEqual(told, begin + wait + 1)
                        self.assertGreaterEqual(road.sum_of(begin + wait, told), size)
                        self.assertLess(road.sum_of(begin + wait, told - 1), size)

    def test_fetched_sizes_that_are_just_the_bits_of_some_beats(self):
        for road in sample_roads():
            for begin, last in ((0, 1), (0, 2), (0, 60), (1, 51), (3, 9), (49, 101), (0, 601), (550, 602), (700, 720)):
                bits = road.sum_of(begin, last)
                for size in (bits - 1, bits, bits + 1):
                    if size >= 1:
                        self.assertEqual(road.fetched(begin, size), whole_beat(road, begin, size, 0))

    def test_fetched_at_the_bounds(self):
        slow = Road(((50, 0),) * 11 + ((50, 1),))
        self.assertEqual(slow.fetched(0, 10000), 10550)
        self.assertEqual(slow.fetched(10000, 10000), 20000)
        self.assertEqual(slow.fetched(10000, 10000, wait=400), 20400)
        self.assertEqual(slow.fetched(slow.fetched(10000, 10000), 10000), 30000)
        fast = Road(((50, 1000),))
        self.assertEqual(fast.fetched(0, 10000), 10)
        self.assertEqual(fast.fetched(0, 9999), 10)
        self.assertEqual(fast.fetched(0, 9001), 10)
        self.assertEqual(fast.fetched(0, 9000), 9)
        self.assertEqual(slow.sum_of(0, 10000), 9450)
        self.assertEqual(fast.sum_of(0, 10000), 10 ** 7)

    def test_what_was_told_is_handed_in_again(self):
        road = small()
        size = road.sum_of(0, 10 ** 9)
        self.assertEqual(road.fetched(0, size), 10 ** 9)
        self.assertEqual(road.fetched(0, road.fetched(0, size)), 10 ** 9 // 3 + 3)
        self.assertEqual(road.behind(road.fetched(0, size)), Road(((1, 3),)))


class KnownTest(unittest.TestCase):

    def test_by_hand(self):
        self.assertEqual(known((4,)), Road(((1, 4),)))
        self.assertEqual(known((2, 2, 2, 0, 0, 5, 3)), small())
        self.assertEqual(known((0, 0, 0, 1)), Road(((3, 0), (1, 1))))
        self.assertEqual(known((0, 1, 0, 1)), Road(((1, 0), (1, 1), (1, 0), (9, 1))))
        self.assertNotEqual(known((0, 0, 0, 1)), Road(((2, 0), (1, 1))))

    def test_it_tells_what_was_told(self):
        dice = random.Random(5)
        rows = [tuple(dice.randint(0, 2) for _ in range(many)) + (dice.randint(1, 3),) for many in range(60)]
        for speeds in rows + [(1,) * 600, (0,) * 599 + (1000,)]:
            road = known(speeds)
            self.assertIs(type(road), Road)
            self.assertEqual([road.speed_at(beat) for beat in range(len(speeds))], list(speeds))
            self.assertEqual(road.speed_at(len(speeds)), speeds[-1])
            self.assertEqual(road.speed_at(10000), speeds[-1])
            self.assertEqual(road, Road(tuple((1, speed) for speed in speeds)))
            self.assert_right_pieces(road)

    def assert_right_pieces(self, road):
        self.assertIs(type(road.pieces), tuple)
        self.assertGreaterEqual(len(road.pieces), 1)
        for piece in road.pieces:
            self.assertIs(type(piece), tuple)
            self.assertEqual([type(number) for number in piece], [int, int])
            self.assertGreaterEqual(piece[0], 1)
            self.assertGreaterEqual(piece[1], 0)
        self.assertGreaterEqual(road.pieces[-1][1], 1)

    def test_behind_by_hand(self):
        road = small()
        self.assertEqual(road.behind(0), road)
        self.assertIsNot(road.behind(0), road)
        self.assertEqual(road.behind(1), Road(((2, 2), (2, 0), (1, 5), (1, 3))))
        self.assertEqual(road.behind(3), Road(((2, 0), (1, 5), (1, 3))))
        self.assertEqual(road.behind(5), Road(((1, 5), (1, 3))))
        self.assertEqual(road.behind(6), Road(((1, 3),)))
        self.assertEqual(road.behind(9), Road(((1, 3),)))
        self.assertEqual(road.behind(10), Road(((1, 3),)))
        self.assertEqual(road.behind(10000), Road(((1, 3),)))

    def test_behind_each_beat(self):
        for road in sample_roads():
            speeds = speeds_of(road, 1400)
            for beat in [*range(12), 49, 50, 51, 99, 100, 549, 550, 551, 599, 600, 601, 650]:
                told = road.behind(beat)
                self.assertIs(type(told), Road)
                self.assert_right_pieces(told)
                self.assertEqual(speeds_of(told, 700), speeds[beat:beat + 700])
                self.assertEqual(told.sum_of(2, 40), road.sum_of(beat + 2, beat + 40))
                self.assertEqual(told.fetched(1, 30) + beat, road.fetched(beat + 1, 30))

    def test_behind_of_one_behind(self):
        for road in sample_roads():
            for one in (0, 1, 2, 5, 50):
                for other in (0, 1, 3, 7, 555):
                    self.assertEqual(road.behind(one).behind(other), road.behind(one + other))

    def test_two_objects_share_nothing(self):
        road = small()
        told = road.behind(0)
        told.pieces = ((1, 9),)
        self.assertEqual(road, small())
        self.assertEqual(road.behind(0), small())


if __name__ == "__main__":
    unittest.main()
