"""Findings: right ones of each sort hold, and nothing else, against checks of the tests' own."""

import random
import time
import unittest

from rateplan import findings
from rateplan.best import best_plan
from rateplan.findings import finding_holds
from rateplan.nevers import never_stalls
from rateplan.roads import Road
from rateplan.runs import Run, run_of
from rateplan.speeds import Speed
from rateplan.talks import Talk
from tests.guards import some_guards
from tests.machines import Guard
from tests.papers import Case
from tests.samples import changed_parts, deep_list, things_of_any_kind
from tests.walks import Walk, some_plan, some_road, some_talk


def is_row(thing, many, least, most):
    """A tuple of so many whole numbers, many telling how many there may be."""
    return (type(thing) is tuple and len(thing) in many
            and all(type(part) is int and least <= part <= most for part in thing))


def own_holds(thing):
    """Whether a thing is a finding that holds, in the document's words."""
    if type(thing) is not tuple or not thing or type(thing[0]) is not str:
        return False
    many = {"run": 7, "best": 7, "never": 6, "stalls": 6}.get(thing[0])
    if len(thing) != many:
        return False
    word, lengths, sizes, *told = thing
    stretches = {"run": 12, "best": 6, "never": 8, "stalls": 8}[word]
    rates, bits = (3, 200) if word == "best" else (4, 1000)
    if not is_row(lengths, range(1, stretches + 1), 1, 20) or type(sizes) is not tuple or len(sizes) != len(lengths):
        return False
    if not all(is_row(row, range(1, rates + 1), 1, bits) for row in sizes) or len(set(map(len, sizes))) != 1:
        return False
    talk = Talk(lengths, sizes)
    plan = told[{"run": 1, "best": 2, "never": 0, "stalls": 0}[word]]
    if not is_row(plan, (len(lengths),), 0, len(sizes[0]) - 1):
        return False
    if word in ("run", "best"):
        pieces = told[0]
        if type(pieces) is not tuple or len(pieces) not in range(1, 13):
            return False
        if not all(is_row(piece, (2,), 0, 1000) and 1 <= piece[0] <= 50 for piece in pieces) or pieces[-1][1] == 0:
            return False
    if word == "run":
        walk = Walk(talk, Road(pieces), plan)
        plays, ended = told[2:]
        return is_row(plays, (len(talk),), 0, 10 ** 9) and type(ended) is int and (list(plays), ended) == (walk.plays, walk.ended)
    if word == "best":
        terms, paper = told[1], told[3]
        if type(terms) is not tuple or len(terms) != 4 or not is_row(terms[1:], (3,), 0, 10 ** 6):
            return False
        if not is_row(terms[0], (len(sizes[0]),), -10 ** 6, 10 ** 6):
            return False
        case = Case(talk, Road(pieces), terms)
        return case.shown(paper) == case.worth(plan)
    kind = told[1]
    if not is_row(kind, (4,), 0, 1000) or not kind[0] < kind[1] or not kind[2] < kind[3] <= 6:
        return False
    guard = Guard(talk, plan, kind)
    return guard.holds(told[2]) if word == "never" else guard.stalls(told[2])


def run_finding(talk, road, plan):
    run = run_of(talk, road, plan)
    return ("run", talk.lengths, talk.sizes, road.pieces, plan, run.plays, run.ended)


def best_finding(talk, road, terms):
    plan, paper = best_plan(talk, road, terms)
    return ("best", talk.lengths, talk.sizes, road.pieces, terms, plan, paper)


def stall_finding(talk, plan, kind):
    """One of never or of stalls, whichever is so."""
    verdict, told = never_stalls(talk, plan, kind, limit=5000)
    return (verdict, talk.lengths, talk.sizes, plan, kind, told)


def small():
    return Talk((4, 2), ((10, 25), (6, 12)))


def small_road():
    return Road(((3, 2), (1, 5)))


def by_hand():
    """A right one of each sort."""
    return [
        ("run", (4, 2), ((10, 25), (6, 12)), ((3, 2), (1, 5)), (1, 0), (7, 8, 9, 10, 11, 12), 13),
        ("best", (2, 1), ((2, 3), (1, 4)), ((1, 1),), ((1, 10), 5, 3, 1), (1, 1), (
            ((0, (0, -1, 0, 0, 0, 0), -1, -1), 23),
            ((2, (1, -1, 0, 2, 0, 0), 0, -1), 1),
            ((3, (1, -1, 0, 2, 0, 0), 1, -1), 6),
        )),
        stall_finding(Talk((2, 1), ((3,), (1,))), (0, 0), (2, 3, 0, 1)),
        ("stalls", (4, 2), ((10, 25), (6, 12)), (0, 1), (2, 3, 1, 3), (2, 3, 3, 2, 3, 3, 2, 3, 3)),
    ]


def numbers_changed(thing):
    """The thing with each of its numbers, those of parts too, in turn one more and one less."""
    if type(thing) is int:
        return [thing + 1, thing - 1]
    if type(thing) is not tuple:
        return []
    return [thing[:at] + (other,) + thing[at + 1:] for at, part in enumerate(thing) for other in numbers_changed(part)]


def parts_changed(thing):
    """The thing with each of its parts, its word too, in turn of another kind, left out, or twice."""
    told = []
    for at, part in enumerate(thing):
        told.append(thing[:at] + thing[at + 1:])
        told.append(thing[:at] + (part, part) + thing[at + 1:])
        others = [None, True, 7, "", [part], (part,)] if type(part) is str else changed_parts(part)
        told += [thing[:at] + (other,) + thing[at + 1:] for other in others]
    return told


class FindingsTest(unittest.TestCase):

    def assert_holds(self, told, thing):
        self.assertIs(finding_holds(thing), told, thing)

    def assert_as_checked(self, thing):
        self.assert_holds(own_holds(thing), thing)


class RightOnesTest(FindingsTest):

    def test_defined_here(self):
        self.assertEqual(findings.finding_holds.__module__, "rateplan.findings")

    def test_by_hand(self):
        self.assertEqual([thing[0] for thing in by_hand()], ["run", "best", "never", "stalls"])
        for thing in by_hand():
            self.assert_as_checked(thing)
            self.assert_holds(True, thing)

    def test_of_best_by_hand(self):
        _, lengths, sizes, pieces, terms, _, _ = by_hand()[1]
        first, low, high = (0, (0, -1, 0, 0, 0, 0), -1, -1), (2, (1, -1, 0, 2, 0, 0), 0, -1), (3, (1, -1, 0, 2, 0, 0), 1, -1)
        # By the defaults play begins where all is whole: nothing stalls, and each beat till there is late by 1.
        for plan, paper, holds in (
            ((1, 1), ((first, 23), (low, 1), (high, 6)), True),
            ((1, 1), ((first, 23), (low, 9), (high, 6)), True),
            ((1, 1), ((first, 23), (low, 40), (high, 6)), False),
            ((1, 1), ((first, 23), (low, 0), (high, 6)), False),
            ((1, 1), ((first, 24), (low, 1), (high, 6)), False),
            ((1, 1), ((first, 22), (low, 1), (high, 6)), False),
            ((1, 1), ((first, 23), (low, 1), (high, 7)), False),
            ((1, 0), ((first, 23), (low, 1), (high, 6)), False),
            ((0, 1), ((first, 23), (low, 1), (high, 6)), False),
        ):
            thing = ("best", lengths, sizes, pieces, terms, plan, paper)
            self.assert_as_checked(thing)
            self.assert_holds(holds, thing)

    def test_runs(self):
        dice = random.Random(201)
        for _ in range(80):
            talk = some_talk(dice, dice.randint(1, 12), dice.randint(1, 4), 20, dice.choice((20, 1000)))
            road = some_road(dice, 12, 50, dice.choice((20, 1000)))
            thing = run_finding(talk, road, some_plan(dice, talk))
            self.assert_holds(True, thing)
            self.assert_as_checked(thing)

    def test_bests(self):
        dice = random.Random(202)
        for _ in range(40):
            talk = some_talk(dice, dice.randint(1, 4), dice.randint(1, 3), 6, 30)
            road = some_road(dice, 6, 9, 9)
            terms = (tuple(dice.randint(-9, 9) for _ in range(talk.many_rates())), *(dice.randint(0, 9) for _ in range(3)))
            thing = best_finding(talk, road, terms)
            self.assert_holds(True, thing)
            # Another plan's worth may be as good; else it isn't what the paper shows.
            for _ in range(4):
                self.assert_as_checked(thing[:5] + (some_plan(dice, talk),) + thing[6:])

    def test_nevers_and_stalls(self):
        dice = random.Random(203)
        told = []
        for guard in some_guards(dice, 150, stretches=5, beats=3, bits=20):
            plan = some_plan(dice, guard.talk)
            if Guard(guard.talk, plan, guard.kind).told(1000) == "too many":
                continue
            thing = stall_finding(guard.talk, plan, guard.kind)
            told.append(thing[0])
            self.assert_holds(True, thing)
            self.assert_as_checked(thing)
            other = "stalls" if thing[0] == "never" else "never"
            self.assert_holds(False, (other, *thing[1:]))
        self.assertGreater(min(told.count("never"), told.count("stalls")), 10)

    def test_what_is_handed_in_stays(self):
        for thing in by_hand():
            before = repr(thing)
            self.assertEqual(finding_holds(thing), finding_holds(thing))
            self.assertEqual(repr(thing), before)


class WrongOnesTest(FindingsTest):

    def rights(self):
        dice = random.Random(211)
        told = by_hand()
        told.append(best_finding(small(), small_road(), ((2, 5), 3, 4, 1)))
        told.append(best_finding(Talk((2, 1, 3), ((2, 3, 9), (1, 4, 4), (5, 5, 8))), Road(((1, 2),)), ((1, 3, 4), 1, 2, 0)))
        told.append(run_finding(Talk((1,), ((1,),)), Road(((1, 1),)), (0,)))
        told.append(stall_finding(Talk((1, 1), ((2,), (2,))), (0, 0), (0, 2, 1, 2)))
        told.append(run_finding(some_talk(dice, 3, 3, 4, 9), some_road(dice, 4, 5, 5), (0, 1, 2)))
        for thing in told:
            self.assert_holds(True, thing)
        return told

    def test_each_number_one_more_and_one_less(self):
        for thing in self.rights():
            for changed in numbers_changed(thing):
                self.assert_as_checked(changed)

    def test_each_part_put_otherwise(self):
        for thing in self.rights():
            for changed in parts_changed(thing):
                self.assert_as_checked(changed)

    def test_what_is_told_of_a_run_is_asked_to_the_last(self):
        for thing in self.rights():
            if thing[0] != "run":
                continue
            plays, ended = thing[5:]
            for changed in (plays[1:], plays[:-1], plays + (ended,), plays[::-1], list(plays), (), tuple(map(str, plays)), None):
                self.assert_holds(changed == plays and type(changed) is tuple, (*thing[:5], changed, ended))
            for changed in (ended + 1, ended - 1, 0, None, str(ended), (ended,), 10 ** 39, -ended):
                self.assert_holds(False, (*thing[:6], changed))

    def test_truths_in_place_of_numbers(self):
        thing = run_finding(Talk((1,), ((1,),)), Road(((1, 1),)), (0,))
        self.assertEqual(thing, ("run", (1,), ((1,),), ((1, 1),), (0,), (1,), 2))
        for changed in (
            ("run", (True,), ((1,),), ((1, 1),), (0,), (1,), 2), ("run", (1,), ((True,),), ((1, 1),), (0,), (1,), 2),
            ("run", (1,), ((1,),), ((True, 1),), (0,), (1,), 2), ("run", (1,), ((1,),), ((1, True),), (0,), (1,), 2),
            ("run", (1,), ((1,),), ((1, 1),), (False,), (1,), 2), ("run", (1,), ((1,),), ((1, 1),), (0,), (True,), 2),
        ):
            self.assertEqual(changed, thing)
            self.assert_holds(False, changed)
        zero = ("best", (1,), ((1,),), ((1, 1),), ((0,), 0, 0, 0), (0,), (((0, (0, -1, 0, 0, 0, 0), -1, -1), 0),))
        self.assert_holds(True, zero)
        for at, part in ((4, ((False,), 0, 0, 0)), (4, ((0,), False, 0, 0)), (4, ((0,), 0, 0, False)), (5, (False,))):
            self.assert_holds(False, zero[:at] + (part,) + zero[at + 1:])

    def test_words_of_other_sorts(self):
        for thing in self.rights():
            for word in ("run", "best", "never", "stalls", "Run", "runs", "", "run ", None, 0, ("run",), "too many", b"run"):
                if word != thing[0]:
                    self.assert_as_checked((word, *thing[1:]))
                    self.assert_holds(False, (word, *thing[1:]))

    def test_things_of_other_kinds(self):
        deep = ()
        for _ in range(29):
            deep = (deep,)
        more = [
            0, 10 ** 39, "", "run", "x" * 4000, deep, deep_list(), ("run",), ("run", "best"), Run, len, Speed(1, 1),
            run_of(small(), small_road(), (0, 0)), [*by_hand()[0]], {"run": by_hand()[0]}, (by_hand()[0],), by_hand()[0] + (0,),
            ("run",) * 7, ("never",) * 6, tuple(range(20000)), ("run", *(deep,) * 6), ("best", *(deep,) * 6), ("never", *(deep,) * 5),
            (deep,) * 7, ("stalls", *([],) * 5), ("run", *({},) * 6), ((), (), (), (), (), (), ()), ("",) * 6,
        ]
        for thing in things_of_any_kind() + more:
            before = repr(thing)
            self.assert_holds(False, thing)
            self.assertEqual(repr(thing), before)

    def test_any_thing_in_place_of_each_part(self):
        deep = ()
        for _ in range(28):
            deep = (deep,)
        others = things_of_any_kind() + [0, 10 ** 39, "", "x", deep, deep_list(), ((),), (None,), ((1, 1), 1), ((0, 0, 0, 1),) * 3, len]
        for thing in self.rights():
            for at in range(len(thing)):
                for other in others:
                    changed = thing[:at] + (other,) + thing[at + 1:]
                    if other != thing[at]:
                        self.assert_as_checked(changed)

    def test_a_paper_of_many_parts_in_good_time(self):
        begun = time.process_time()
        for thing in self.rights():
            for many in (tuple(range(19000)), ((0, (0, -1, 0, 0, 0, 0), -1, -1),) * 1500, ([],) * 19000):
                self.assert_holds(False, (*thing[:-1], many))
        self.assertLess(time.process_time() - begun, 20)


class BoundsTest(FindingsTest):

    def assert_run(self, holds, lengths, sizes, pieces, plan=None):
        plan = plan or (0,) * len(lengths)
        run = run_of(Talk(lengths, sizes), Road(pieces), plan)
        self.assert_holds(holds, ("run", lengths, sizes, pieces, plan, run.plays, run.ended))

    def test_of_a_run(self):
        self.assert_run(True, (20,) * 12, ((1000,) * 4,) * 12, ((50, 1000),) * 12, (3,) * 12)
        self.assert_run(False, (1,) * 13, ((1,),) * 13, ((1, 1),))
        self.assert_run(False, (21,), ((1,),), ((1, 1),))
        self.assert_run(False, (1,), ((1,) * 5,), ((1, 1),))
        self.assert_run(False, (1, 1), ((1, 1001), (1, 1)), ((1, 1),))
        self.assert_run(False, (1,), ((1,),), ((1, 1),) * 13)
        self.assert_run(False, (1,), ((1,),), ((51, 1),))
        self.assert_run(False, (1,), ((1,),), ((1, 1001),))
        self.assert_run(False, (1, 1), ((1, 1), (1,)), ((1, 1),))
        self.assert_run(False, (1,), ((1,),), ((1, -1), (1, 2)))
        self.assert_run(True, (1,), ((1,),), ((50, 0), (1, 1)))

    def test_wrong_talks_roads_and_plans(self):
        thing = ("run", (1,), ((1,),), ((1, 1),), (0,), (1,), 2)
        self.assert_holds(True, thing)
        for at, part in (
            (1, (0,)), (1, (-1,)), (1, ()), (2, ((0,),)), (2, ((),)), (2, ()), (2, ((1,), (1,))), (3, ((0, 1),)), (3, ((1, 0),)),
            (3, ()), (3, ((1, -1),)), (3, ((1, 1), (1, 0))), (3, ((1, 1, 1),)), (3, ((1,),)), (3, (1, 1)), (4, ()), (4, (0, 0)),
            (4, (1,)), (4, (-1,)), (2, (1,)), (2, 1), (1, 1),
        ):
            self.assert_holds(False, thing[:at] + (part,) + thing[at + 1:])

    def assert_best(self, holds, lengths, sizes, pieces, terms):
        self.assert_holds(holds, best_finding(Talk(lengths, sizes), Road(pieces), terms))

    def test_of_a_best_plan(self):
        self.assert_best(True, (20,) * 6, ((200,) * 3,) * 6, ((50, 1000),) * 12, ((10 ** 6,) * 3, 10 ** 6, 10 ** 6, 10 ** 6))
        self.assert_best(True, (1,), ((1,),), ((1, 1),), ((-10 ** 6,), 0, 0, 0))
        self.assert_best(False, (1,) * 7, ((1,),) * 7, ((1, 1),), ((1,), 0, 0, 0))
        self.assert_best(False, (1,), ((1,) * 4,), ((1, 1),), ((1,) * 4, 0, 0, 0))
        self.assert_best(False, (1,), ((201,),), ((1, 1),), ((1,), 0, 0, 0))
        self.assert_best(False, (1, 1), ((1, 1), (1, 201)), ((1, 1),), ((1, 1), 0, 0, 0))
        self.assert_best(False, (21,), ((1,),), ((1, 1),), ((1,), 0, 0, 0))
        self.assert_best(False, (1,), ((1,),), ((51, 1),), ((1,), 0, 0, 0))
        self.assert_best(False, (1,), ((1,),), ((1, 1),), ((10 ** 6 + 1,), 0, 0, 0))
        self.assert_best(False, (1,), ((1,),), ((1, 1),), ((-10 ** 6 - 1,), 0, 0, 0))
        for at in range(3):
            for part in (10 ** 6 + 1, -1):
                terms = [0, 0, 0]
                terms[at] = part
                self.assert_best(False, (1,), ((1,),), ((1, 1),), ((1,), *terms))

    def test_terms_that_are_none(self):
        thing = best_finding(small(), small_road(), ((0, 0), 0, 0, 0))
        self.assert_holds(True, thing)
        for terms in (((0,), 0, 0, 0), ((0, 0, 0), 0, 0, 0), ((0, 0), 0, 0), ((0, 0), 0, 0, 0, 0), (0, 0, 0, 0), ((0, 0), None, 0, 0)):
            self.assert_holds(False, thing[:4] + (terms,) + thing[5:])

    def assert_stall(self, holds, lengths, sizes, kind):
        thing = stall_finding(Talk(lengths, sizes), (0,) * len(lengths), kind)
        self.assert_holds(holds, thing)
        return thing[0]

    def test_of_nevers_and_stalls(self):
        self.assertEqual(self.assert_stall(True, (20,) * 8, ((1000,) * 4,) * 8, (0, 1000, 0, 1)), "never")
        self.assertEqual(self.assert_stall(True, (1,) * 8, ((1000,) * 4,) * 8, (999, 1000, 0, 6)), "never")
        self.assertEqual(self.assert_stall(True, (1,) * 8, ((1000,) * 4,) * 8, (499, 500, 0, 6)), "stalls")
        for kind in ((0, 1000, 0, 1), (499, 500, 0, 1)):
            self.assert_stall(False, (1,) * 9, ((1000,),) * 9, kind)
        self.assertEqual(self.assert_stall(False, (21,), ((1,),), (0, 1, 0, 1)), "never")
        self.assertEqual(self.assert_stall(False, (1,), ((1,) * 5,), (0, 1, 0, 1)), "never")
        self.assertEqual(self.assert_stall(False, (1,), ((1001,),), (0, 1000, 0, 1)), "never")
        self.assertEqual(self.assert_stall(False, (1,), ((1,),), (0, 1001, 0, 1)), "never")
        # Where none may be slow the slow speed is never gone, but it is asked for all the same.
        self.assertEqual(self.assert_stall(False, (1,), ((1,),), (-1, 5, 0, 1)), "never")
        self.assertEqual(self.assert_stall(False, (1,), ((1,),), (0, 1000, 0, 7)), "never")
        self.assertEqual(self.assert_stall(False, (4, 1), ((1,), (1001,)), (0, 7, 1, 6)), "stalls")
        self.assertEqual(self.assert_stall(False, (4, 1), ((1,), (1000,)), (0, 7, 1, 7)), "stalls")

    def test_kinds_that_are_none(self):
        for thing in (stall_finding(small(), (0, 0), (2, 5, 1, 3)), stall_finding(small(), (0, 1), (2, 3, 1, 3))):
            self.assert_holds(True, thing)
            slow, fast, many, wide = thing[4]
            for kind in (
                (fast, fast, many, wide), (fast, slow, many, wide), (slow, fast, wide, wide), (slow, fast, -1, wide), (-1, fast, many, wide),
                (slow, fast, 0, 0), (slow, fast, many), (slow, fast, many, wide, 1), [slow, fast, many, wide], (slow, fast, True, wide),
                (slow, fast, many, None), None, (), (slow, (fast,), many, wide), (slow, None, many, wide),
            ):
                self.assert_holds(False, thing[:4] + (kind,) + thing[5:])

    def test_plans_without_a_rate_for_each_stretch(self):
        for thing in (stall_finding(small(), (0, 0), (2, 5, 1, 3)), stall_finding(small(), (0, 1), (2, 3, 1, 3))):
            for plan in (thing[3][:1], thing[3] + (0,), (), (0, 2), (2, 0), (-1, 0), (0, False), None, [0, 0], lambda seen: 0):
                self.assert_holds(False, thing[:3] + (plan,) + thing[4:])

    def test_by_the_defaults(self):
        # What stalls by begin 1 doesn't by begin 4.
        talk = Talk((1, 1), ((2,), (2,)))
        self.assertEqual(never_stalls(talk, (0, 0), (1, 2, 1, 2), begin=1), ("stalls", (2, 1, 2)))
        self.assert_holds(False, ("stalls", (1, 1), ((2,), (2,)), (0, 0), (1, 2, 1, 2), (2, 1, 2)))
        run = run_of(talk, Road(((1, 1),)), (0, 0), begin=1)
        self.assert_holds(False, ("run", (1, 1), ((2,), (2,)), ((1, 1),), (0, 0), run.plays, run.ended))


if __name__ == "__main__":
    unittest.main()
