"""A desk: each line and its answer, the refusals in their order, and that what is refused changes nothing."""

import itertools
import random
import unittest

from rateplan import desk as module
from rateplan.best import best_plan
from rateplan.desk import Desk
from rateplan.errors import NoFit, NoName, NoRoom, NoText, RateError
from rateplan.nevers import never_stalls
from rateplan.roads import Road
from rateplan.speeds import Speed
from rateplan.talks import Talk
from tests.guards import some_kind
from tests.machines import Guard
from tests.papers import Case
from tests.samples import deep_list, things_of_any_kind
from tests.walks import Walk, some_plan, some_road, some_talk

TALK = "talk a 4:10,25 2:6,12"
ROAD = "road r 3x2 1x5"
PLAN = "plan p 1 0"


def desk_of(*lines):
    """A desk that was told these lines."""
    desk = Desk()
    for line in lines:
        desk.say(line)
    return desk


def laid():
    """A desk with a talk, a road and a plan."""
    return desk_of(TALK, ROAD, PLAN)


def talk_line(name, talk):
    return " ".join([f"talk {name}"] + [f"{beats}:{','.join(map(str, bits))}" for beats, bits in zip(talk.lengths, talk.sizes)])


def road_line(name, road):
    return f"road {name} {road}"


def plan_line(name, plan):
    return " ".join(map(str, ("plan", name, *plan)))


def some_desk(dice):
    """A desk with a talk t, a road r and a plan p, some options being set, and what these are."""
    talk = some_talk(dice, dice.randint(1, 5), dice.randint(1, 3), dice.choice((2, 6)), dice.choice((5, 30)))
    road, plan = some_road(dice, 6, 9, dice.choice((3, 9))), some_plan(dice, talk)
    desk = desk_of(talk_line("t", talk), road_line("r", road), plan_line("p", plan))
    options = {}
    for option in ("begin", "again", "most", "wait"):
        if dice.random() < 0.6:
            options[option] = dice.randint(max(talk.lengths), 12) if option == "most" else dice.randint(1, 9)
            desk.say(f"set {option} {options[option]}")
    return desk, talk, road, plan, options


class DesksTest(unittest.TestCase):

    def assert_says(self, desk, line, told):
        answer = desk.say(line)
        self.assertEqual(answer, told, line)
        self.assertIs(type(answer), str)

    def assert_refused(self, desk, line, kind, thing):
        before = self.all_of(desk)
        with self.assertRaises(kind, msg=repr(line)) as caught:
            desk.say(line)
        self.assertIs(type(caught.exception), kind, line)
        field = "at" if kind is NoText else "thing"
        self.assertEqual(vars(caught.exception), {field: thing}, line)
        self.assertEqual(self.all_of(desk), before, line)

    def assert_no_text(self, desk, line):
        self.assert_refused(desk, line, NoText, 0)

    def all_of(self, desk):
        """What a desk tells of all that it may keep here, refusals too."""
        told = [desk.say("names")]
        for line in ("run a r p", "when a r p 5", "best a r 1 1 1 2", "never a p 2 5 1 3"):
            try:
                told.append(desk.say(line))
            except RateError as refused:
                told.append((type(refused), refused.thing))
        return told


class LinesTest(DesksTest):

    def test_defined_here(self):
        self.assertEqual(Desk.__module__, "rateplan.desk")
        self.assertEqual(module.Desk, Desk)
        self.assertIn("say", vars(Desk))

    def test_what_is_laid_on_it_is_ok(self):
        desk = Desk()
        for line in (TALK, ROAD, PLAN, "talk b 1:1", "road s 1x1", "plan q 0", "plan p 3 3 3 3 3 3 3 3 3 3 3 3"):
            self.assert_says(desk, line, "ok")
        self.assert_says(desk, "names", "a b p q r s")

    def test_run(self):
        self.assert_says(laid(), "run a r p", "7 0 13")
        desk = desk_of("talk t 2:2,4 2:2,9 2:2,4", "road r 1x1", "plan p 0 1 0", "set begin 1", "set again 3")
        self.assert_says(desk, "run t r p", "2 9 17")
        desk = desk_of("talk t 1:2 1:2 1:2", "road r 1x1", "plan p 0 0 0", "set begin 1", "set again 1")
        self.assert_says(desk, "run t r p", "2 2 7")

    def test_when(self):
        desk = laid()
        for beat in range(6):
            self.assert_says(desk, f"when a r p {beat}", str(7 + beat))
        desk = desk_of("talk t 2:2,4 2:2,9 2:2,4", "road r 1x1", "plan p 0 1 0", "set begin 1", "set again 3")
        self.assertEqual([desk.say(f"when t r p {beat}") for beat in range(6)], ["2", "3", "13", "14", "15", "16"])

    def test_best(self):
        desk = laid()
        # The low one is worth 1 a beat and the high one 5, or the other way round.
        self.assert_says(desk, "best a r 2 10 1 5", "30 1 1")
        self.assert_says(desk, "best a r 2 10 5 1", "30 0 0")
        self.assert_says(desk, "best a r 2 10 5 -1", "30 0 0")
        self.assert_says(desk, "best a r 0 0 -3 -1", "-6 1 1")
        self.assert_says(desk, "best a r 1000000 1000000 -1000000 1000000", "6000000 1 1")

    def test_best_counts_stalls_and_steps_but_no_late_beats(self):
        desk = desk_of("talk t 1:1,9 1:1,2", "road r 1x1", "set begin 1", "set again 1")
        # The high one of the first is late by nine beats, which costs nothing; that of the second is a stall of one.
        self.assert_says(desk, "best t r 0 0 0 4", "8 1 1")
        self.assert_says(desk, "best t r 0 3 0 4", "5 1 1")
        self.assert_says(desk, "best t r 0 5 0 4", "4 1 0")
        self.assert_says(desk, "best t r 3 5 0 4", "3 1 1")
        self.assert_says(desk, "best t r 4 9 0 4", "0 0 0")

    def test_never(self):
        desk = laid()
        self.assert_says(desk, "never a p 2 5 1 3", "never")
        desk.say("plan q 0 1")
        self.assert_says(desk, "never a q 2 3 1 3", "stalls 2 3 3 2 3 3 2 3 3")
        self.assert_says(desk, "never a q 0 1 0 1", "stalls " + " ".join("1" * 15))
        desk = desk_of("talk t 20:1000", "plan p 0")
        self.assert_says(desk, "never t p 0 1 1 2", "too many")
        self.assert_says(desk, "never t p 0 9 0 1", "never")

    def test_drop(self):
        desk = laid()
        self.assert_says(desk, "drop r", "ok")
        self.assert_refused(desk, "drop r", NoName, "r")
        self.assert_says(desk, "names", "a p")
        self.assert_refused(desk, "run a r p", NoName, "r")
        # All of this name, of whatever sort.
        for line in ("talk p 1:1", "road p 1x1"):
            desk.say(line)
        self.assert_says(desk, "drop p", "ok")
        self.assert_says(desk, "names", "a")
        self.assert_says(desk, "drop a", "ok")
        self.assert_says(desk, "names", "none")

    def test_names(self):
        desk = Desk()
        self.assert_says(desk, "names", "none")
        for name in ("b", "ab", "a", "zz", "abcdefgh", "aa"):
            desk.say(f"road {name} 1x1")
        for name in ("zz", "c", "a"):
            desk.say(f"plan {name} 0")
        desk.say("talk a 1:1")
        self.assert_says(desk, "names", "a aa ab abcdefgh b c zz")

    def test_names_stand_for_one_of_each_sort(self):
        desk = desk_of("talk x 4:10,25 2:6,12", "road x 3x2 1x5", "plan x 1 0")
        self.assert_says(desk, "run x x x", "7 0 13")
        self.assert_says(desk, "names", "x")
        desk.say("drop x")
        self.assert_says(desk, "names", "none")

    def test_in_the_stead(self):
        desk = laid()
        for line, told in (
            ("plan p 0 0", "4 0 10"), ("road r 1x5", "2 0 8"), ("talk a 1:1,1 2:2,2", "2 0 5"),
            (TALK, "2 0 8"), (ROAD, "4 0 10"), (PLAN, "7 0 13"),
        ):
            self.assert_says(desk, line, "ok")
            self.assert_says(desk, "run a r p", told)
        # Of the same sort alone.
        desk.say("road a 1x50")
        desk.say("plan a 0 0")
        self.assert_says(desk, "run a r p", "7 0 13")
        self.assert_says(desk, "run a a a", "1 0 7")

    def test_words_of_lines_are_names_too(self):
        desk = desk_of("talk talk 1:1", "road road 1x1", "plan names 0", "plan none 0")
        self.assert_says(desk, "run talk road names", "1 0 2")
        self.assert_says(desk, "names", "names none road talk")

    def test_of_all_bounds(self):
        talk = "talk abcdefgh" + " 20:1000,1000,1000,1000" * 12
        desk = desk_of(talk, "road r" + " 50x1000" * 11 + " 1x1", "plan p" + " 3" * 12)
        self.assertEqual(desk.say("run abcdefgh r p").count(" "), 2)
        desk = desk_of("talk t" + " 20:200,200,200" * 6, "road r 50x0 50x200", "plan p" + " 2" * 6)
        self.assertEqual(desk.say("best t r 1 1 1 2 3").split(" ")[1:], ["2"] * 6)
        desk = desk_of("talk t" + " 20:1000,1000,1000,1000" * 8, "plan p" + " 3" * 8)
        self.assert_says(desk, "never t p 999 1000 0 1", "never")


class OptionsTest(DesksTest):

    def test_each_at_its_bounds_and_just_beyond(self):
        for option in ("begin", "again", "most", "wait"):
            for number in (1, 2, 9, 10, 99, 100, 399, 400):
                self.assert_says(laid(), f"set {option} {number}", "ok")
            for number in ("401", "1000", "-1", "01", "00", "-0", "+1", "1.0", "", "x", "0" * 400, "4" * 4000):
                self.assert_no_text(laid(), f"set {option} {number}")
        for option in ("begin", "again", "most"):
            self.assert_no_text(laid(), f"set {option} 0")
        self.assert_says(laid(), "set wait 0", "ok")

    def test_other_words(self):
        for line in ("set", "set begin", "set begin 1 1", "set limit 1", "set Begin 1", "set begin  1", "set opens 1", "set 1 begin"):
            self.assert_no_text(laid(), line)

    def test_they_count_from_then_on(self):
        desk = desk_of("talk t 2:2,4 2:2,9 2:2,4", "road r 1x1", "plan p 0 1 0")
        talk, road = Talk((2, 2, 2), ((2, 4), (2, 9), (2, 4))), Road(((1, 1),))
        options = {}
        for option, number in (("begin", 1), ("again", 3), ("most", 3), ("wait", 2), ("begin", 5), ("wait", 0), ("most", 30)):
            self.assert_says(desk, f"set {option} {number}", "ok")
            options[option] = number
            walk = Walk(talk, road, (0, 1, 0), **options)
            self.assert_says(desk, "run t r p", f"{walk.plays[0]} {len(walk.stalls)} {walk.ended}")
            for beat in range(6):
                self.assert_says(desk, f"when t r p {beat}", str(walk.plays[beat]))
            case = Case(talk, road, ((1, 3), 1, 2, 0), {}, options)
            self.assertEqual(desk.say("best t r 1 2 1 3").split(" ")[0], str(case.best()))
            guard = Guard(talk, (0, 1, 0), (1, 4, 1, 2), options).told()
            self.assert_says(desk, "never t p 1 4 1 2", "never" if guard[0] == "never" else " ".join(map(str, ("stalls", *guard[1]))))

    def test_two_desks(self):
        one, other = laid(), Desk()
        self.assert_says(other, "names", "none")
        one.say("set wait 9")
        other.say(TALK), other.say(ROAD), other.say(PLAN)
        self.assert_says(other, "run a r p", "7 0 13")
        self.assertNotEqual(one.say("run a r p"), "7 0 13")
        one.say("drop a")
        self.assert_says(other, "names", "a p r")


class NoTextTest(DesksTest):

    def test_things_that_are_no_texts(self):
        for thing in things_of_any_kind() + [0, 1, 10 ** 39, deep_list(), Speed(1, 1), Desk(), len, ("names",), b"names"]:
            self.assert_no_text(laid(), thing)

    def test_words_that_begin_no_line(self):
        for line in (
            "", " ", "x", "name", "namess", "Names", "NAMES", "names x", "help", "talks a 1:1", "a", "ok", "none", "rates 2",
            "names\n", "\nnames", "names\nnames", "rates 2\n4 : 10 25", "\n", "x" * 4000, " " * 4000,
        ):
            self.assert_no_text(laid(), line)

    def test_a_blank_more_or_fewer(self):
        rights = [
            TALK, ROAD, PLAN, "run a r p", "when a r p 5", "best a r 1 1 1 2", "never a p 2 5 1 3", "drop a", "names", "set begin 4",
        ]
        for line in rights:
            desk = laid()
            self.assertTrue(desk.say(line))
            self.assert_no_text(laid(), line + " ")
            self.assert_no_text(laid(), " " + line)
            self.assert_no_text(laid(), line + "\n")
            for at, sign in enumerate(line):
                if sign == " ":
                    self.assert_no_text(laid(), line[:at] + " " + line[at:])
                    self.assert_no_text(laid(), line[:at] + "\n" + line[at + 1:])
                    if line[:at].count(" ") == 0:
                        self.assert_no_text(laid(), line[:at] + line[at + 1:])

    def test_a_word_more_or_fewer(self):
        for line in (
            "talk", "talk a", "road", "road r", "plan", "plan p", "run", "run a", "run a r", "run a r p p", "when a r p",
            "when a r 1", "when a r p 1 1", "best a r", "best a r 1", "best a r 1 1", "never a p 2 5 1", "never a p 2 5 1 3 1",
            "never a p", "never", "drop", "drop a p", "names a", "talk 4:10,25", "road 3x2", "plan 0",
        ):
            self.assert_no_text(laid(), line)

    def test_names_that_are_none(self):
        for name in (
            "abcdefghi", "A", "aB", "Ab", "a1", "1", "a-b", "a_b", "", "a.", "-", "a:", "a,b", "\u00e9", "\u03b1", "a\u0300", "\u00aa",
        ):
            for line in (
                "talk {} 4:10,25 2:6,12", "road {} 3x2 1x5", "plan {} 1 0", "run {} r p", "run a {} p", "run a r {}",
                "when {} r p 1", "when a {} p 1", "when a r {} 1", "best {} r 1 1 1 2", "best a {} 1 1 1 2",
                "never {} p 2 5 1 3", "never a {} 2 5 1 3", "drop {}",
            ):
                self.assert_no_text(laid(), line.format(name))
        for name in ("a", "z", "abcdefgh", "zzzzzzzz"):
            self.assert_says(laid(), f"road {name} 1x1", "ok")

    def test_numbers_that_are_none(self):
        right = laid()
        for number in ("00", "01", "007", "-0", "-1", "+1", "1.0", "1_0", "x", "", "0x1", "\u0661", "\u00b2", "1e3", "--1", "-", "9" * 4000):
            for line in (
                "talk a {}:10,25 2:6,12", "talk a 4:{},25 2:6,12", "talk a 4:10,25 2:6,{}", "road r {}x2 1x5", "road r 3x{} 1x5",
                "road r 3x2 1x{}", "plan p {} 0", "plan p 1 {}", "best a r {} 1 1 2", "best a r 1 {} 1 2",
                "never a p {} 5 1 3", "never a p 2 {} 1 3", "never a p 2 5 {} 3", "never a p 2 5 1 {}",
            ):
                self.assert_no_text(right, line.format(number))
            if number != "9" * 4000:
                self.assert_no_text(right, f"when a r p {number}")
            if number != "-1":
                self.assert_no_text(right, f"best a r 1 1 {number} 2")
                self.assert_no_text(right, f"best a r 1 1 1 {number}")

    def test_stretches_that_are_none(self):
        for word in (
            "4", "4:", ":10,25", "4:10,", "4:,25", "4:10,,25", "4:10 25", "4::10,25", "4:10:25", "4,10,25", "4;10,25", "4x10",
            "4:10,25,", "0:10,25", "21:10,25", "4:0,25", "4:10,1001", "4:10,25,3", "4:10",
        ):
            self.assert_no_text(laid(), f"talk b {word} 2:6,12")
            self.assert_no_text(laid(), f"talk b 2:6,12 {word}")
        for line in (
            "talk b 1:1,1,1,1,1", "talk b 1:1 1:1,1", "talk b 1:1,1 1:1", "talk b" + " 1:1" * 13,
            "talk b 21:1", "talk b 1:1001", "talk b 1:1,1001", "talk b 0:1", "talk b 1:0",
        ):
            self.assert_no_text(laid(), line)
        for line in ("talk b" + " 1:1" * 12, "talk b 20:1000,1000,1000,1000", "talk b 1:1"):
            self.assert_says(laid(), line, "ok")

    def test_pieces_that_are_none(self):
        for word in ("3", "3x", "x2", "3x2x1", "3X2", "3*2", "3:2", "0x2", "51x2", "3x1001"):
            self.assert_no_text(laid(), f"road s {word} 1x5")
            self.assert_no_text(laid(), f"road s 1x5 {word}")
        for line in ("road s 1x0", "road s 1x5 1x0", "road s" + " 1x1" * 13, "road s 51x1", "road s 1x1001"):
            self.assert_no_text(laid(), line)
        for line in ("road s" + " 1x1" * 12, "road s 50x1000", "road s 1x0 1x1", "road s 50x0 1x1"):
            self.assert_says(laid(), line, "ok")

    def test_plans_that_are_none(self):
        for line in ("plan q 4", "plan q 0 4", "plan q" + " 0" * 13, "plan q 10", "plan q -1", "plan q 0,1", "plan q 0 x"):
            self.assert_no_text(laid(), line)
        for line in ("plan q 3", "plan q" + " 3" * 12, "plan q 0"):
            self.assert_says(laid(), line, "ok")

    def test_terms_just_at_and_beyond(self):
        for line in (
            "best a r 1000001 1 1 2", "best a r 1 1000001 1 2", "best a r 1 1 1000001 2", "best a r 1 1 1 -1000001", "best a r -1 1 1 2",
            "best a r 1 -1 1 2", "best a r 1 1 -0 2", "best a r 1 1 1 -01", "best a r 1 1 1 - 2", "best a r 1 1 1 -", "best a r 1 1 --1 1",
        ):
            self.assert_no_text(laid(), line)
        for line in ("best a r 1000000 1000000 1000000 -1000000", "best a r 0 0 0 0", "best a r 0 0 -1 -1000000"):
            self.assertTrue(laid().say(line))

    def test_kinds_just_at_and_beyond(self):
        for kind in (
            "5 5 1 3", "5 4 1 3", "0 0 1 3", "2 1001 1 3", "1001 1002 1 3", "2 5 3 3", "2 5 1 1", "2 5 0 0", "2 5 1 7", "2 5 6 6",
            "2 5 4 3", "1000 1000 0 1",
        ):
            self.assert_no_text(laid(), f"never a p {kind}")
        for kind in ("0 1000 0 1", "999 1000 5 6", "0 5 2 3", "4 5 1 2"):
            self.assertTrue(laid().say(f"never a p {kind}"))

    def test_ahead_of_all_else(self):
        desk = Desk()
        for line in ("run x y z ", "when x y z -1", "best x y 1 1 -0", "never x y 5 2 1 3", "drop X", "set most 0"):
            self.assert_no_text(desk, line)


class NoNameTest(DesksTest):

    def test_of_the_first_one_that_is_not_there(self):
        for there in itertools.product((False, True), repeat=3):
            lines = [line for line, is_there in zip((TALK, ROAD, PLAN), there) if is_there]
            absent = [name for name, is_there in zip("arp", there) if not is_there]
            if absent:
                self.assert_refused(desk_of(*lines), "run a r p", NoName, absent[0])
                self.assert_refused(desk_of(*lines), "when a r p 99", NoName, absent[0])
            if [name for name in absent if name != "p"]:
                self.assert_refused(desk_of(*lines), "best a r 1 1 1 1 1 1 1", NoName, absent[0])
            if [name for name in absent if name != "r"]:
                self.assert_refused(desk_of(*lines), "never a p 2 5 1 3", NoName, [name for name in absent if name != "r"][0])

    def test_of_its_sort(self):
        desk = desk_of("talk x 1:1", "road y 1x1", "plan z 0")
        self.assert_refused(desk, "run y x z", NoName, "y")
        self.assert_refused(desk, "run x x z", NoName, "x")
        self.assert_refused(desk, "run x y y", NoName, "y")
        self.assert_refused(desk, "best z y 1 1 1", NoName, "z")
        self.assert_refused(desk, "never x y 2 5 1 3", NoName, "y")
        self.assert_says(desk, "run x y z", "1 0 2")

    def test_of_drop(self):
        desk = laid()
        for name in ("b", "names", "abcdefgh", "ar"):
            self.assert_refused(desk, f"drop {name}", NoName, name)
        for name in "arp":
            self.assert_says(desk, f"drop {name}", "ok")
            self.assert_refused(desk, f"drop {name}", NoName, name)

    def test_ahead_of_no_fit_and_no_room(self):
        desk = desk_of("talk t" + " 20:1000,1,1,1" * 12, "set most 1")
        self.assert_refused(desk, "best t r 1 1 1", NoName, "r")
        self.assert_refused(desk, "never t p 2 5 1 3", NoName, "p")
        self.assert_refused(desk, "when t r p 999", NoName, "r")


class NoFitTest(DesksTest):

    def test_talks_beyond_what_is_let_for_best(self):
        for line in ("talk t" + " 1:1" * 7, "talk t 1:1,1,1,1", "talk t 1:201", "talk t 1:1,1 1:1,201"):
            desk = desk_of(line, ROAD)
            worths = " ".join("1" * (line.split(" ")[2].count(",") + 1))
            self.assert_refused(desk, f"best t r 1 1 {worths}", NoFit, "t")
        for line in ("talk t" + " 1:1" * 6, "talk t 1:1,1,1", "talk t 1:200", "talk t 1:1,1 1:1,200"):
            desk = desk_of(line, ROAD)
            worths = " ".join("1" * (line.split(" ")[2].count(",") + 1))
            self.assertTrue(desk.say(f"best t r 1 1 {worths}"))

    def test_talks_beyond_what_is_let_for_never(self):
        desk = desk_of("talk t" + " 1:1" * 9, "plan p" + " 0" * 9, "talk u" + " 1:1" * 8, "plan q" + " 0" * 8)
        self.assert_refused(desk, "never t p 2 5 1 3", NoFit, "t")
        self.assert_refused(desk, "never t q 2 5 1 3", NoFit, "t")
        self.assert_says(desk, "never u q 2 5 1 3", "never")
        desk = desk_of("talk t 20:1000,1000,1000,1000", "plan p 3")
        self.assert_says(desk, "never t p 500 501 0 1", "never")

    def test_worths_that_are_not_as_many_as_rates(self):
        desk = laid()
        for worths in ("1", "1 1 1", "1 1 1 1", "1 1 1 1 1", " ".join("1" * 100)):
            self.assert_refused(desk, f"best a r 1 1 {worths}", NoFit, "a")
        self.assertTrue(desk.say("best a r 1 1 1 1"))

    def test_a_beat_that_the_talk_has_not(self):
        desk = laid()
        for beat in ("6", "7", "10", "60", "99999", "1000001", "9" * 3900, "1" + "0" * 39):
            self.assert_refused(desk, f"when a r p {beat}", NoFit, "a")
        self.assert_says(desk, "when a r p 5", "12")

    def test_plans_that_do_not_fit(self):
        desk = laid()
        for rates in ("0", "0 0 0", "2 0", "0 2", "0 3", "0 0 0 0 0 0 0 0 0 0 0 0"):
            desk.say(f"plan q {rates}")
            for line in ("run a r q", "when a r q 0", "never a q 2 5 1 3"):
                self.assert_refused(desk, line, NoFit, "q")

    def test_the_talk_ahead_of_the_plan(self):
        desk = laid()
        desk.say("plan q 0")
        self.assert_refused(desk, "when a r q 6", NoFit, "a")
        self.assert_refused(desk, "when a r q 5", NoFit, "q")
        desk.say("talk t" + " 1:1" * 9)
        self.assert_refused(desk, "never t q 2 5 1 3", NoFit, "t")

    def test_ahead_of_no_room(self):
        desk = laid()
        desk.say("set most 1")
        desk.say("plan q 0")
        self.assert_refused(desk, "when a r p 6", NoFit, "a")
        self.assert_refused(desk, "best a r 1 1 1", NoFit, "a")
        self.assert_refused(desk, "run a r q", NoFit, "q")
        self.assert_refused(desk, "never a q 2 5 1 3", NoFit, "q")


class NoRoomTest(DesksTest):

    def test_of_the_first_stretch_that_is_too_long(self):
        desk = desk_of("talk a 2:1,2 4:3,4 5:1,1", ROAD, "plan p 0 0 0", "set most 3")
        for line in ("run a r p", "when a r p 0", "best a r 1 1 1 2", "never a p 2 5 1 3"):
            self.assert_refused(desk, line, NoRoom, 1)
        desk.say("set most 1")
        self.assert_refused(desk, "run a r p", NoRoom, 0)
        desk.say("set most 4")
        self.assert_refused(desk, "run a r p", NoRoom, 2)
        desk.say("set most 5")
        self.assertTrue(desk.say("run a r p"))

    def test_a_talk_that_has_none_is_laid_all_the_same(self):
        desk = desk_of("set most 1", TALK)
        self.assert_says(desk, "names", "a")


class AgainstOthersTest(DesksTest):

    def test_runs(self):
        dice = random.Random(191)
        for _ in range(150):
            desk, talk, road, plan, options = some_desk(dice)
            walk = Walk(talk, road, plan, **options)
            self.assert_says(desk, "run t r p", f"{walk.plays[0]} {len(walk.stalls)} {walk.ended}")
            for beat, play in enumerate(walk.plays):
                self.assert_says(desk, f"when t r p {beat}", str(play))

    def test_best_plans(self):
        dice = random.Random(192)
        for _ in range(40):
            desk, talk, road, _, options = some_desk(dice)
            worths = tuple(dice.randint(-9, 9) for _ in range(talk.many_rates()))
            case = Case(talk, road, (worths, dice.randint(0, 9), dice.randint(0, 9), 0), {}, options)
            line = " ".join(map(str, ("best t r", *case.terms[1:3], *worths)))
            worth, *rates = map(int, desk.say(line).split(" "))
            self.assertEqual((worth, case.worth(tuple(rates))), (case.best(), case.best()))
            self.assertEqual(best_plan(talk, road, case.terms, **options)[0], tuple(rates))

    def test_nevers(self):
        dice = random.Random(193)
        told = set()
        for _ in range(80):
            desk, talk, _, plan, options = some_desk(dice)
            guard = Guard(talk, plan, some_kind(dice, 9), options)
            line = " ".join(map(str, ("never t p", *guard.kind)))
            due = guard.told()
            told.add(due[0])
            if due != "too many":
                self.assertEqual(never_stalls(talk, plan, guard.kind, **options), due)
                due = "never" if due[0] == "never" else " ".join(map(str, ("stalls", *due[1])))
            self.assert_says(desk, line, due)
        self.assertGreaterEqual(told, {"never", "stalls"})


if __name__ == "__main__":
    unittest.main()
