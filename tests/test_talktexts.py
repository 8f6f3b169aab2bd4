"""Talks as texts: what is written, what is read, and the number of the first wrong line."""

import re
import unittest

from rateplan import talktexts
from rateplan.errors import NoText
from rateplan.talks import Talk
from rateplan.talktexts import read_talk, show_talk
from tests.samples import sample_talks, things_of_any_kind

SMALL = "rates 2\n4 : 10 25\n2 : 6 12"


def first_wrong(text):
    """The number of the first line that is none such, None where the text is a talk's."""
    lines = text.split("\n")
    head = re.fullmatch("rates ([1-4])", lines[0])
    if head is None:
        return 0
    bits = "( ([1-9][0-9]{0,2}|1000)){" + head.group(1) + "}"
    for at, line in enumerate(lines[1:], start=1):
        if at > 12 or re.fullmatch("([1-9]|1[0-9]|20) :" + bits, line) is None:
            return at
    return 1 if len(lines) == 1 else None


class TextTest(unittest.TestCase):

    def assert_no_text(self, text, at):
        with self.assertRaises(NoText) as caught:
            read_talk(text)
        self.assertIs(type(caught.exception), NoText)
        self.assertIs(type(caught.exception.at), int)
        self.assertEqual(caught.exception.at, at)

    def assert_as_told(self, text):
        at = first_wrong(text)
        if at is None:
            self.assertEqual(show_talk(read_talk(text)), text)
        else:
            self.assert_no_text(text, at)


class ShowTest(TextTest):

    def test_by_hand(self):
        self.assertEqual(show_talk(Talk((1,), ((1,),))), "rates 1\n1 : 1")
        self.assertEqual(show_talk(Talk((4, 2), ((10, 25), (6, 12)))), SMALL)
        self.assertEqual(show_talk(Talk((20,), ((1000, 1, 1000, 2),))), "rates 4\n20 : 1000 1 1000 2")

    def test_line_by_line(self):
        for talk in sample_talks():
            lines = show_talk(talk).split("\n")
            self.assertEqual(len(lines), 1 + len(talk.lengths))
            self.assertEqual(lines[0], "rates " + str(len(talk.sizes[0])))
            for line, beats, bits in zip(lines[1:], talk.lengths, talk.sizes):
                self.assertEqual(line, str(beats) + " : " + " ".join(map(str, bits)))

    def test_what_is_shown_stays(self):
        for talk, like in zip(sample_talks(), sample_talks()):
            self.assertEqual(show_talk(talk), show_talk(talk))
            self.assertEqual(talk, like)

    def test_a_talk_beyond_what_is_read(self):
        half = Talk((1,) * 7, ((1,),) * 7)
        self.assertEqual(show_talk(half.joined(half)), "rates 1" + "\n1 : 1" * 14)

    def test_both_are_defined_here(self):
        self.assertEqual(talktexts.show_talk.__module__, "rateplan.talktexts")
        self.assertEqual(talktexts.read_talk.__module__, "rateplan.talktexts")


class ReadTest(TextTest):

    def test_by_hand(self):
        self.assertEqual(read_talk("rates 1\n1 : 1"), Talk((1,), ((1,),)))
        self.assertEqual(read_talk(SMALL), Talk((4, 2), ((10, 25), (6, 12))))

    def test_what_was_shown(self):
        for talk in sample_talks():
            read = read_talk(show_talk(talk))
            self.assertEqual(read, talk)
            self.assertIs(type(read), Talk)
            self.assertIs(type(read.lengths), tuple)
            self.assertIs(type(read.sizes), tuple)
            for beats, bits in zip(read.lengths, read.sizes):
                self.assertIs(type(beats), int)
                self.assertIs(type(bits), tuple)
                self.assertEqual([type(bit) for bit in bits], [int] * talk.many_rates())

    def test_read_twice(self):
        one = read_talk(SMALL)
        other = read_talk(SMALL)
        self.assertIsNot(one, other)
        one.lengths = (1, 1)
        self.assertEqual(other, Talk((4, 2), ((10, 25), (6, 12))))
        self.assertEqual(read_talk(SMALL), other)

    def test_no_text_at_all(self):
        for thing in things_of_any_kind() + [0, 1, 10 ** 39, (SMALL,), [SMALL], SMALL.split("\n"), {SMALL: SMALL}]:
            before = repr(thing)
            self.assert_no_text(thing, 0)
            self.assertEqual(repr(thing), before)

    def test_bits_at_their_edge(self):
        for bits in (1, 9, 10, 99, 100, 999, 1000):
            self.assertEqual(read_talk(f"rates 1\n1 : {bits}"), Talk((1,), ((bits,),)))
            self.assertEqual(read_talk(f"rates 2\n1 : 1 {bits}"), Talk((1,), ((1, bits),)))
        for bits in (0, -1, 1001, 1010, 2000, 10000, 10 ** 39):
            self.assert_no_text(f"rates 1\n1 : {bits}", 1)
            self.assert_no_text(f"rates 2\n1 : 1 {bits}", 1)
            self.assert_no_text(f"rates 2\n1 : 1 1\n1 : {bits} 1", 2)

    def test_beats_at_their_edge(self):
        for beats in range(1, 21):
            self.assertEqual(read_talk(f"rates 1\n{beats} : 1"), Talk((beats,), ((1,),)))
        for beats in (0, -1, 21, 30, 99, 100, 200, 10 ** 39):
            self.assert_no_text(f"rates 1\n{beats} : 1", 1)
            self.assert_no_text(f"rates 1\n1 : 1\n1 : 1\n{beats} : 1", 3)

    def test_rates_at_their_edge(self):
        for rates in range(1, 5):
            self.assertEqual(read_talk(f"rates {rates}\n1 :" + " 7" * rates), Talk((1,), ((7,) * rates,)))
        for rates in (0, -1, 5, 6, 10, 11, 14, 41, 10 ** 39):
            self.assert_no_text(f"rates {rates}\n1 :" + " 7" * min(20, max(0, rates)), 0)
            self.assert_no_text(f"rates {rates}", 0)

    def test_stretches_at_their_edge(self):
        for many in range(1, 13):
            self.assertEqual(read_talk("rates 1" + "\n1 : 1" * many), Talk((1,) * many, ((1,),) * many))
        for many in (13, 14, 100):
            self.assert_no_text("rates 1" + "\n1 : 1" * many, 13)
        self.assert_no_text("rates 1" + "\n1 : 1" * 12 + "\n", 13)
        self.assert_no_text("rates 1" + "\n1 : 1" * 12 + "\nx", 13)
        self.assert_no_text("rates 1" + "\n1 : 1" * 11 + "\nx" + "\n1 : 1", 12)

    def test_stretches_lacking(self):
        for rates in range(1, 5):
            self.assert_no_text(f"rates {rates}", 1)

    def test_more_or_fewer_bits_than_rates(self):
        for rates in range(1, 5):
            for many in range(0, 8):
                if many != rates:
                    line = "3 :" + " 5" * many
                    self.assert_no_text(f"rates {rates}\n{line}", 1)
                    self.assert_no_text(f"rates {rates}\n1 :" + " 1" * rates + f"\n{line}", 2)

    def test_noughts_ahead(self):
        self.assert_no_text("rates 02\n4 : 10 25", 0)
        self.assert_no_text("rates 2\n04 : 10 25", 1)
        self.assert_no_text("rates 2\n4 : 010 25", 1)
        self.assert_no_text("rates 2\n4 : 10 25\n4 : 10 0025", 2)
        self.assert_no_text("rates 2\n4 : 10 00", 1)
        self.assert_no_text("rates 1\n4 : " + "0" * 3000 + "1", 1)

    def test_very_many_figures(self):
        # More of them than Python itself reads as a number.
        for many in (3000, 5000):
            self.assert_no_text("rates " + "1" * many, 0)
            self.assert_no_text("rates 1\n" + "1" * many + " : 1", 1)
            self.assert_no_text("rates 1\n1 : " + "1" * many, 1)

    def test_signs_that_python_takes_for_numbers(self):
        for word in ("+1", "-1", "1_0", "1.0", "1e1", "0x1", "\t1", "1\t", "\r1", "1\r", "\u00b2", "\u0661", ""):
            self.assert_no_text(f"rates {word}\n1 : 1", 0)
            self.assert_no_text(f"rates 1\n{word} : 1", 1)
            self.assert_no_text(f"rates 1\n1 : {word}", 1)
            self.assert_no_text(f"rates 1\n1 : 1\n1 : {word}", 2)

    def test_blanks(self):
        for head in (" rates 2", "rates  2", "rates 2 ", "rates2", "rates", "", " ", "rates\t2", "rates 2 2"):
            self.assert_no_text(head + "\n4 : 10 25", 0)
        for line in (" 4 : 10 25", "4  : 10 25", "4 :  10 25", "4 : 10  25", "4 : 10 25 ",
                     "4: 10 25", "4 :10 25", "4 : 1025", "4:10 25", "", " ", ":", "4 :", "4", "4 10 25"):
            self.assert_no_text("rates 2\n" + line, 1)
            self.assert_no_text("rates 2\n1 : 1 2\n" + line + "\n1 : 1 2", 2)

    def test_line_ends(self):
        self.assert_no_text("", 0)
        self.assert_no_text("\n", 0)
        self.assert_no_text("\n" + SMALL, 0)
        self.assert_no_text("rates 2\n", 1)
        self.assert_no_text(SMALL + "\n", 3)
        self.assert_no_text(SMALL + "\n\n", 3)
        self.assert_no_text("rates 2\n\n4 : 10 25", 1)
        self.assert_no_text("rates 2\n4 : 10 25\n\n2 : 6 12", 2)
        self.assert_no_text("rates 2\r\n4 : 10 25", 0)
        self.assert_no_text("rates 2\n4 : 10 25\r\n2 : 6 12", 1)
        self.assert_no_text("rates 2\n4 : 10 25\r2 : 6 12", 1)

    def test_other_words(self):
        for head in ("Rates 2", "RATES 2", "rate 2", "ratess 2", "2 rates", "rates : 2", "rates two", "4 : 10 25"):
            self.assert_no_text(head + "\n4 : 10 25", 0)
        for line in ("rates 2", "4 ; 10 25", "4 :: 10 25", ": 4 10 25", "4 10 : 25", "four : 10 25"):
            self.assert_no_text("rates 2\n" + line, 1)

    def test_the_first_wrong_line_is_told(self):
        self.assert_no_text("rates 9\nx\ny", 0)
        self.assert_no_text("rates 2\nx\ny", 1)
        self.assert_no_text("rates 2\n4 : 10 25\n0 : 1 1\n4 : 1", 2)
        self.assert_no_text("rates 2\n4 : 10 25\n4 : 1\n0 : 1 1", 2)


class ChangedTextsTest(TextTest):
    """Each change of each sample's text is read, or refused, as the lines tell one by one."""

    def texts(self):
        return [show_talk(talk) for talk in sample_talks()[:4]] + [SMALL]

    def test_a_sign_left_out_twice_or_exchanged(self):
        for text in self.texts():
            for at, sign in enumerate(text):
                self.assert_as_told(text[:at] + text[at + 1:])
                self.assert_as_told(text[:at] + sign + text[at:])
                for other in "0159 :\nras-+.,x":
                    self.assert_as_told(text[:at] + other + text[at + 1:])

    def test_a_sign_put_in(self):
        for text in self.texts():
            for at in range(len(text) + 1):
                for other in "0129 :\nra-+_\t":
                    self.assert_as_told(text[:at] + other + text[at:])

    def test_signs_beside_each_other_exchanged(self):
        for text in self.texts():
            for at in range(len(text) - 1):
                self.assert_as_told(text[:at] + text[at + 1] + text[at] + text[at + 2:])

    def test_lines_left_out_twice_or_exchanged(self):
        for talk in sample_talks():
            lines = show_talk(talk).split("\n")
            for at in range(len(lines)):
                self.assert_as_told("\n".join(lines[:at] + lines[at + 1:]))
                self.assert_as_told("\n".join(lines[:at] + lines[at:at + 1] + lines[at:]))
                self.assert_as_told("\n".join(lines[:at] + [""] + lines[at:]))
                for other in range(at):
                    moved = list(lines)
                    moved[at], moved[other] = lines[other], lines[at]
                    self.assert_as_told("\n".join(moved))

    def test_the_head_of_each_text(self):
        for text in self.texts():
            for many in range(len(text)):
                self.assert_as_told(text[:many])


if __name__ == "__main__":
    unittest.main()
