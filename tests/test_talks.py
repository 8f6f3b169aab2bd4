"""Talks: fields, len, ==, str, repr, many_rates, cut, joined, place."""

import unittest

from rateplan.errors import NoBeat, RateError, Unlike
from rateplan.talks import Talk
from tests.samples import sample_talks, things_of_any_kind


class LikeATalk:
    """Has a talk's fields, and is none."""

    def __init__(self, lengths, sizes):
        self.lengths = lengths
        self.sizes = sizes


def small():
    return Talk((4, 2, 1), ((10, 25), (6, 12), (3, 4)))


def places_of(talk):
    """Each beat's place, counted out one by one."""
    return [(stretch, beat) for stretch, many in enumerate(talk.lengths) for beat in range(many)]


class FieldsTest(unittest.TestCase):

    def test_fields(self):
        talk = small()
        self.assertEqual(talk.lengths, (4, 2, 1))
        self.assertEqual(talk.sizes, ((10, 25), (6, 12), (3, 4)))
        self.assertIs(type(talk.lengths), tuple)
        self.assertIs(type(talk.sizes), tuple)

    def test_interface_stands_in_the_class_itself(self):
        self.assertEqual(Talk.__module__, "rateplan.talks")
        for name in ("__init__", "__len__", "__eq__", "__str__", "__repr__",
                     "many_rates", "cut", "joined", "place"):
            self.assertIn(name, vars(Talk))

    def test_len_is_all_beats(self):
        self.assertEqual([len(talk) for talk in sample_talks()], [1, 20, 6, 9, 8, 174])
        for talk in sample_talks():
            self.assertEqual(len(talk), sum(talk.lengths))

    def test_many_rates(self):
        self.assertEqual([talk.many_rates() for talk in sample_talks()], [1, 4, 2, 3, 1, 4])

    def test_str(self):
        self.assertEqual([str(talk) for talk in sample_talks()], [
            "1 stretches, 1 beats, 1 rates",
            "1 stretches, 20 beats, 4 rates",
            "2 stretches, 6 beats, 2 rates",
            "3 stretches, 9 beats, 3 rates",
            "4 stretches, 8 beats, 1 rates",
            "12 stretches, 174 beats, 4 rates",
        ])

    def test_repr(self):
        self.assertEqual(repr(Talk((1,), ((1,),))), "Talk((1,), ((1,),))")
        self.assertEqual(repr(Talk((4, 2), ((10, 25), (6, 12)))), "Talk((4, 2), ((10, 25), (6, 12)))")
        self.assertEqual(repr(Talk((4, 2), ((10,), (6,)))), "Talk((4, 2), ((10,), (6,)))")
        for talk in sample_talks():
            self.assertEqual(eval(repr(talk)), talk)
            self.assertEqual(f"{talk}", str(talk))


class EqualTest(unittest.TestCase):

    def test_equal_by_the_fields(self):
        for one, other in zip(sample_talks(), sample_talks()):
            self.assertIsNot(one, other)
            self.assertTrue(one == other)
            self.assertTrue(other == one)
            self.assertFalse(one != other)

    def test_unlike_talks(self):
        talks = sample_talks()
        for at, one in enumerate(talks):
            for other in talks[:at] + talks[at + 1:]:
                self.assertFalse(one == other)
                self.assertTrue(one != other)

    def test_each_field_counts(self):
        talk = small()
        for other in (
            Talk((4, 2, 2), talk.sizes),
            Talk((2, 4, 1), talk.sizes),
            Talk(talk.lengths, ((10, 25), (6, 12), (3, 5))),
            Talk(talk.lengths, ((25, 10), (6, 12), (3, 4))),
            Talk(talk.lengths, ((10,), (6,), (3,))),
        ):
            self.assertIs(talk == other, False)
            self.assertIs(other == talk, False)
            self.assertIs(talk != other, True)
            self.assertIs(other != talk, True)

    def test_nothing_else_is_equal(self):
        talk = small()
        others = [thing for thing in things_of_any_kind() if not isinstance(thing, Talk)]
        others += [
            0, 1, 3, 7, -1, "", str(talk), repr(talk), (talk.lengths, talk.sizes), [talk.lengths, talk.sizes],
            talk.lengths, talk.sizes, LikeATalk(talk.lengths, talk.sizes), Talk,
        ]
        for other in others:
            self.assertIs(talk == other, False)
            self.assertIs(other == talk, False)
            self.assertIs(talk != other, True)
            self.assertIs(other != talk, True)

    def test_found_in_a_list_of_like_ones(self):
        talks = sample_talks()
        for at, talk in enumerate(sample_talks()):
            self.assertIn(talk, talks)
            self.assertEqual(talks.index(talk), at)
            self.assertEqual(talks.count(talk), 1)
        self.assertNotIn(small(), talks)
        self.assertIn((small(), 1), [(small(), 1)])


class CutTest(unittest.TestCase):

    def test_cut_by_hand(self):
        talk = small()
        self.assertEqual(talk.cut(0, 2), talk)
        self.assertEqual(talk.cut(0, 0), Talk((4,), ((10, 25),)))
        self.assertEqual(talk.cut(1, 1), Talk((2,), ((6, 12),)))
        self.assertEqual(talk.cut(2, 2), Talk((1,), ((3, 4),)))
        self.assertEqual(talk.cut(0, 1), Talk((4, 2), ((10, 25), (6, 12))))
        self.assertEqual(talk.cut(1, 2), Talk((2, 1), ((6, 12), (3, 4))))

    def test_every_cut(self):
        for talk in sample_talks():
            many = len(talk.lengths)
            for first in range(many):
                for last in range(first, many):
                    part = talk.cut(first, last)
                    self.assertIs(type(part), Talk)
                    self.assertIs(type(part.lengths), tuple)
                    self.assertIs(type(part.sizes), tuple)
                    self.assertEqual(part.lengths, tuple(talk.lengths[k] for k in range(first, last + 1)))
                    self.assertEqual(part.sizes, tuple(talk.sizes[k] for k in range(first, last + 1)))

    def test_a_cut_shares_nothing(self):
        talk = small()
        part = talk.cut(0, 2)
        self.assertIsNot(part, talk)
        part.lengths = (1,)
        part.sizes = ((1,),)
        self.assertEqual(talk, small())
        self.assertEqual(talk.cut(0, 2), small())


class JoinedTest(unittest.TestCase):

    def test_joined_by_hand(self):
        one = Talk((4,), ((10, 25),))
        other = Talk((2, 1), ((6, 12), (3, 4)))
        self.assertEqual(one.joined(other), small())
        self.assertEqual(other.joined(one), Talk((2, 1, 4), ((6, 12), (3, 4), (10, 25))))
        self.assertEqual(one.joined(one), Talk((4, 4), ((10, 25), (10, 25))))

    def test_parts_of_a_talk_joined_are_the_talk(self):
        for talk in sample_talks():
            many = len(talk.lengths)
            for at in range(1, many):
                self.assertEqual(talk.cut(0, at - 1).joined(talk.cut(at, many - 1)), talk)

    def test_unlike_with_own_rates_first(self):
        for one in sample_talks():
            for other in sample_talks():
                if one.many_rates() == other.many_rates():
                    self.assertEqual(len(one.joined(other)), len(one) + len(other))
                    continue
                with self.assertRaises(Unlike) as caught:
                    one.joined(other)
                self.assertEqual(caught.exception.one, len(one.sizes[0]))
                self.assertEqual(caught.exception.other, len(other.sizes[0]))

    def test_what_is_joined_stays(self):
        for one in sample_talks():
            for other in sample_talks():
                before = (repr(one), repr(other))
                for _ in range(2):
                    try:
                        both = one.joined(other)
                        self.assertIsNot(both, one)
                        self.assertIsNot(both, other)
                        self.assertIsNot(both, one.joined(other))
                    except Unlike:
                        pass
                self.assertEqual((repr(one), repr(other)), before)


class PlaceTest(unittest.TestCase):

    def test_by_hand(self):
        talk = small()
        self.assertEqual(
            [talk.place(beat) for beat in range(7)],
            [(0, 0), (0, 1), (0, 2), (0, 3), (1, 0), (1, 1), (2, 0)],
        )

    def test_every_beat(self):
        for talk in sample_talks():
            told = [talk.place(beat) for beat in range(len(talk))]
            self.assertEqual(told, places_of(talk))
            self.assertEqual(told, [talk.place(beat) for beat in range(len(talk))])
            for place in told:
                self.assertIs(type(place), tuple)
                self.assertEqual([type(number) for number in place], [int, int])

    def assert_no_beat(self, talk, thing):
        with self.assertRaises(NoBeat) as caught:
            talk.place(thing)
        self.assertIs(type(caught.exception), NoBeat)
        self.assertIsInstance(caught.exception, RateError)
        self.assertIs(caught.exception.thing, thing)

    def test_numbers_of_no_beat(self):
        for talk in sample_talks():
            for number in (len(talk), len(talk) + 1, -1, -2, -len(talk), 10 ** 4, 10 ** 39, -10 ** 39):
                self.assert_no_beat(talk, number)

    def test_things_that_are_no_beat(self):
        texts = ["", "0", "1", "a", "0\n1", "x" * 4000]
        for talk in sample_talks():
            for thing in things_of_any_kind() + texts:
                before = repr(thing)
                self.assert_no_beat(talk, thing)
                self.assertEqual(repr(thing), before)

    def test_the_talk_itself_is_no_beat(self):
        talk = small()
        self.assert_no_beat(talk, talk)

    def test_a_talk_stays_as_it_was(self):
        for talk, like in zip(sample_talks(), sample_talks()):
            for thing in [0, len(talk), True, None, [0]]:
                try:
                    talk.place(thing)
                except NoBeat:
                    pass
            talk.cut(0, 0)
            talk.many_rates()
            told = (str(talk), repr(talk), len(talk))
            self.assertEqual(talk, like)
            self.assertEqual(told, (str(like), repr(like), len(like)))
            self.assertEqual(set(vars(talk)), {"lengths", "sizes"})


if __name__ == "__main__":
    unittest.main()
