"""The whole: what runs, stands, players, tapes, desks, checks and findings tell of the same is the same."""

import random
import unittest

from rateplan.best import best_plan
from rateplan.bestchecks import shown_worth
from rateplan.findings import finding_holds
from rateplan.neverchecks import never_holds, stalls_holds
from rateplan.nevers import never_stalls
from rateplan.players import Player
from rateplan.roads import known
from rateplan.runs import run_of
from rateplan.stands import asks, chosen, first_stand, gone
from rateplan.tapes import Tape
from rateplan.twins import both_of
from rateplan.worths import worth_of
from tests.guards import some_guards
from tests.test_desk import some_desk
from tests.walks import some_plan


def stands_of(talk, road, plan, ended, *, wait=0, **options):
    """The stands ahead of each beat and behind the last one, each rate being chosen where it is asked for."""
    most = {name: worth for name, worth in options.items() if name == "most"}
    told = [first_stand()]
    for beat in range(ended + 1):
        if asks(talk, told[-1], **most):
            told[-1] = chosen(told[-1], plan[told[-1][0]], wait=wait)
        if beat < ended:
            told.append(gone(talk, told[-1], road.speed_at(beat), **options))
    return told


class WholeTest(unittest.TestCase):

    def test_runs_stands_players_tapes_and_a_desk(self):
        dice = random.Random(221)
        for _ in range(60):
            desk, talk, road, plan, options = some_desk(dice)
            run = run_of(talk, road, plan, **options)
            stalled = sum(many for _, many in run.stalls)
            self.assertEqual(desk.say("run t r p"), f"{run.plays[0]} {stalled} {run.ended}")
            self.assertEqual([int(desk.say(f"when t r p {beat}")) for beat in range(len(talk))], list(run.plays))
            stands = stands_of(talk, road, plan, run.ended, **options)
            speeds = [road.speed_at(beat) for beat in range(run.ended)]
            tape, player, shown = Tape(talk, plan, **options), Player(talk, **options), []
            for beat in dice.sample(range(run.ended), run.ended):
                tape.tell(beat, speeds[beat])
            for beat, speed in enumerate(speeds):
                self.assertEqual(tape.stand_behind(beat), stands[beat])
                if asks(talk, player.stand_now(), most=options.get("most", 30)):
                    player.choose(plan[player.stand_now()[0]])
                self.assertEqual(player.stand_now(), stands[beat])
                shown.append((beat, player.beat(speed)))
                self.assertEqual(stands[beat + 1][3], run.kept[beat])
            self.assertEqual((player.stand_now(), tape.stand_behind(run.ended)), (stands[-1], stands[-1]))
            played = tuple(pair for pair in shown if pair[1] is not None)
            self.assertEqual((tape.played_till(run.ended), played), (tuple(zip(run.plays, range(len(talk)))),) * 2)
            self.assertEqual(tape.chosen_till(run.ended), run.rates)
            over = Player(talk, **options)
            self.assertEqual(over.over(tuple(speeds) + (1, 1), rule=lambda seen: plan[seen[0]]), run.ended)
            self.assertEqual(over.stand_now(), stands[-1])

    def test_the_told_road_of_a_stall(self):
        dice = random.Random(222)
        met = 0
        for guard in some_guards(dice, 120):
            verdict, told = never_stalls(guard.talk, guard.chooser, guard.kind, limit=5000, **guard.options)
            if verdict == "never":
                continue
            met += 1
            run = run_of(guard.talk, known((*told, guard.kind[1])), guard.chooser, **guard.options)
            self.assertEqual(run.stalls[0][0], len(told) - 1)
            tape = Tape(guard.talk, guard.chooser, **guard.options)
            for beat, speed in enumerate(told):
                tape.tell(beat, speed)
            self.assertEqual([tape.stand_behind(beat)[5] == 2 for beat in range(len(told) + 1)], [False] * len(told) + [True])
            self.assertIs(stalls_holds(guard.talk, guard.chooser, guard.kind, told, **guard.options), True)
        self.assertGreater(met, 20)

    def test_findings_of_what_is_told(self):
        dice = random.Random(223)
        for _ in range(40):
            _, talk, road, plan, _ = some_desk(dice)
            fields = (talk.lengths, talk.sizes)
            run = run_of(talk, road, plan)
            self.assertIs(finding_holds(("run", *fields, road.pieces, plan, run.plays, run.ended)), True)
            terms = (tuple(dice.randint(-9, 9) for _ in range(talk.many_rates())), 2, 3, 1)
            best, paper = best_plan(talk, road, terms)
            self.assertIs(finding_holds(("best", *fields, road.pieces, terms, best, paper)), True)
            self.assertEqual(shown_worth(talk, road, terms, paper), worth_of(talk, run_of(talk, road, best), terms))
            other = some_plan(dice, talk)
            as_good = worth_of(talk, run_of(talk, road, other), terms) == shown_worth(talk, road, terms, paper)
            self.assertIs(finding_holds(("best", *fields, road.pieces, terms, other, paper)), as_good)
            kind = (dice.randint(2, 6), dice.randint(7, 9), 1, 3)
            verdict, told = never_stalls(talk, plan, kind, limit=5000)
            self.assertIs(finding_holds((verdict, *fields, plan, kind, told)), True)
            self.assertIs(never_holds(talk, plan, kind, told), verdict == "never")

    def test_a_talk_beside_one_that_comes_at_once(self):
        # Over a road so fast that each stretch takes one beat the other track takes every other one.
        dice = random.Random(224)
        for _ in range(30):
            _, talk, _, plan, _ = some_desk(dice)
            twin = both_of((talk, talk), known((10 ** 6,)), (plan, plan))
            self.assertEqual(twin.rates, (plan, plan))
            self.assertEqual(twin.whole[1], tuple(whole + 1 for whole in twin.whole[0]))
            self.assertEqual(len(twin.plays), len(talk))


if __name__ == "__main__":
    unittest.main()
