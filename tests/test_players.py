"""Players: choices, beats, seeks and skips, refusals and notes, against a machine of the tests' own."""

import itertools
import random
import unittest

from rateplan.errors import NoBeat, NoPace, NoRate, NoRoom, NotNow, RateError
from rateplan.players import Player
from rateplan.roads import known
from rateplan.runs import run_of
from rateplan.speeds import Speed
from rateplan.talks import Talk
from tests.guards import some_rule
from tests.machines import Machine
from tests.samples import deep_list, things_of_any_kind
from tests.walks import some_options, some_plan, some_road, some_talk, speeds_of

REFUSALS = {"NotNow": NotNow, "NoRate": NoRate, "NoPace": NoPace, "NoBeat": NoBeat}


def small():
    """Beats 0 to 3, 4 and 5, and 6 to 8."""
    return Talk((4, 2, 3), ((10, 25), (6, 12), (8, 9)))


def things():
    return things_of_any_kind() + ["", "0", 10 ** 39, -10 ** 39, -1, deep_list(), Speed(1, 1), small(), len]


def is_number(thing):
    return type(thing) is int


class Model:
    """What a player has to tell, deed by deed."""

    def __init__(self, talk, **options):
        self.machine = Machine(talk, **options)
        self.notes = []

    def deed(self, word, *given):
        """The refusal's name and its thing, or "done" and what is told."""
        told = getattr(self, word)(*given)
        self.notes.append((word, told[0]))
        return told

    def choose(self, rate):
        if not self.machine.asks():
            return ("NotNow", self.machine.stand())
        if not is_number(rate) or rate not in range(len(self.machine.talk.sizes[0])):
            return ("NoRate", rate)
        self.machine.choose(rate)
        return ("done", None)

    def beat(self, speed):
        if self.machine.asks() or self.machine.ended():
            return ("NotNow", self.machine.stand())
        if not is_number(speed) or speed < 0:
            return ("NoPace", speed)
        return ("done", self.machine.beat(speed))

    def over(self, speeds, rule=None):
        many = 0
        for speed in speeds:
            if self.machine.ended():
                break
            if not is_number(speed) or speed < 0:
                return ("NoPace", speed)
            if self.machine.asks():
                self.machine.choose(0 if rule is None else self.machine.told(rule))
            self.machine.beat(speed)
            many += 1
        return ("done", many)

    def seek(self, beat):
        if not is_number(beat) or beat not in range(self.machine.all):
            return ("NoBeat", beat)
        self.machine.seek(beat)
        return ("done", None)

    def skip(self):
        last = self.machine.spans[-1]
        if self.machine.ended() or self.machine.next in last:
            return ("NotNow", self.machine.stand())
        span = [span for span in self.machine.spans if self.machine.next in span][0]
        self.machine.seek(span[-1] + 1)
        return ("done", None)


class PlayersTest(unittest.TestCase):

    def pair(self, talk=None, **options):
        talk = talk or small()
        return Player(talk, **options), Model(talk, **options)

    def assert_same(self, player, model):
        self.assertEqual(player.stand_now(), model.machine.stand())
        self.assertEqual(player.gone_by(), model.machine.beats)
        self.assertEqual(player.thrown(), model.machine.thrown)
        self.assertEqual(player.notes(), tuple(model.notes))

    def told_of(self, player, word, *given, **named):
        """The refusal's name and its thing, or "done" and what is told."""
        try:
            return ("done", getattr(player, word)(*given, **named))
        except RateError as refused:
            self.assertEqual(set(vars(refused)), {"thing"})
            return (type(refused).__name__, refused.thing)

    def both(self, pair, word, *given):
        """A deed of both, which tell the same of it and are the same behind it."""
        player, model = pair
        named = {"rule": given[1]} if word == "over" and len(given) == 2 else {}
        told = self.told_of(player, word, *given[:1], **named)
        due = model.deed(word, *given)
        self.assertEqual(told, due, (word, given))
        self.assertIs(type(told[1]), type(due[1]))
        if given and due[0] in ("NoRate", "NoBeat"):
            self.assertIs(told[1], given[0])
        self.assert_same(player, model)
        return told

    def deeds(self, pair, *deeds):
        return [self.both(pair, *deed) for deed in deeds]

    def refused(self, player, word, *given):
        """A deed that is refused changes nothing but the notes, which have one more."""
        ahead = (player.stand_now(), player.gone_by(), player.thrown(), player.notes())
        name, thing = self.told_of(player, word, *given)
        self.assertIn(name, REFUSALS)
        self.assertEqual((player.stand_now(), player.gone_by(), player.thrown()), ahead[:3])
        self.assertEqual(player.notes(), (*ahead[3], (word, name)))
        return name, thing


class FirstTest(PlayersTest):

    def test_defined_here_with_each_of_its_deeds(self):
        self.assertEqual(Player.__module__, "rateplan.players")
        for name in ("choose", "beat", "over", "seek", "skip", "stand_now", "gone_by", "thrown", "notes"):
            self.assertIn(name, vars(Player))

    def test_it_is_at_its_first_stand(self):
        player = Player(small())
        self.assertEqual(player.stand_now(), (0, -1, 0, 0, 0, 0))
        self.assertEqual((player.gone_by(), player.thrown(), player.notes()), (0, 0, ()))

    def test_kinds_of_what_is_told(self):
        player = Player(small())
        self.assertIsNone(player.choose(0))
        self.assertIsNone(player.beat(9))
        self.assertEqual(player.over((1,)), 1)
        self.assertIsNone(player.seek(0))
        self.assertIsNone(player.skip())
        for told, kind in ((player.stand_now(), tuple), (player.gone_by(), int), (player.thrown(), int), (player.notes(), tuple)):
            self.assertIs(type(told), kind)
        self.assertEqual(player.notes(), tuple((word, "done") for word in ("choose", "beat", "over", "seek", "skip")))

    def test_no_room(self):
        for lengths, most, number in (((4, 2), 3, 0), ((2, 4), 3, 1), ((2, 4, 5), 3, 1), ((30, 31), 30, 1), ((31,), 30, 0)):
            with self.assertRaises(NoRoom) as caught:
                Player(Talk(lengths, ((1, 2),) * len(lengths)), **({} if most == 30 else {"most": most}))
            self.assertIs(type(caught.exception), NoRoom)
            self.assertEqual(caught.exception.thing, number)
        self.assertEqual(Player(Talk((4, 2), ((1,), (1,))), most=4).gone_by(), 0)

    def test_what_was_told_does_not_change(self):
        player = Player(small())
        notes, stand = player.notes(), player.stand_now()
        player.over((1, 2, 3))
        self.assertEqual((notes, stand), ((), (0, -1, 0, 0, 0, 0)))
        self.assertEqual(player.notes(), player.notes())
        self.assertEqual(player.stand_now(), player.stand_now())

    def test_two_players_of_one_talk_share_nothing(self):
        talk = small()
        one, other = Player(talk), Player(talk)
        one.over((5,) * 8)
        one.seek(2)
        self.assertEqual((other.stand_now(), other.gone_by(), other.notes()), ((0, -1, 0, 0, 0, 0), 0, ()))
        other.choose(1)
        self.assertEqual(one.notes(), (("over", "done"), ("seek", "done")))
        self.assertEqual(repr(talk), repr(small()))


class BeatsTest(PlayersTest):

    def test_by_hand(self):
        player = Player(small(), begin=3, again=2)
        player.choose(0)
        self.assertEqual([player.beat(speed) for speed in (4, 5, 0)], [None] * 3)
        self.assertEqual(player.stand_now(), (0, 0, 9, 0, 0, 0))
        self.assertIsNone(player.beat(1))
        self.assertEqual(player.stand_now(), (1, -1, 0, 4, 0, 0))
        player.choose(1)
        self.assertEqual([player.beat(2) for _ in range(5)], [0, 1, 2, 3, None])
        self.assertEqual(player.stand_now(), (1, 1, 10, 0, 4, 2))
        self.assertIsNone(player.beat(2))
        self.assertEqual(player.stand_now(), (2, -1, 0, 2, 4, 2))
        player.choose(0)
        self.assertEqual([player.beat(8) for _ in range(5)], [4, 5, 6, 7, 8])
        self.assertEqual((player.stand_now(), player.gone_by()), ((3, -1, 0, 0, 9, 1), 15))

    def test_against_the_machine_over_whole_talks(self):
        dice = random.Random(171)
        for _ in range(120):
            talk = some_talk(dice, dice.randint(1, 5), dice.randint(1, 4), dice.choice((2, 6)), dice.choice((5, 20)))
            options = some_options(dice, talk, dice.choice((3, 12)))
            plan, road = some_plan(dice, talk), some_road(dice, 6, 9, dice.choice((2, 9)))
            pair = self.pair(talk, **options)
            run = run_of(talk, road, plan, **options)
            shown, speeds = [], speeds_of(road, run.ended)
            for beat, speed in enumerate(speeds):
                if pair[1].machine.asks():
                    self.both(pair, "choose", plan[pair[1].machine.stretch])
                shown += [beat] if self.both(pair, "beat", speed)[1] is not None else []
            self.assertEqual(tuple(shown), run.plays)
            # At the end nothing more is let but seeks.
            for deed in (("beat", 1), ("choose", 0), ("skip",)):
                self.assertEqual(self.both(pair, *deed)[0], "NotNow")
            self.assertEqual(self.both(pair, "over", (1, 2, 3)), ("done", 0))

    def test_options_left_out_and_in_any_order(self):
        speeds = (3, 0, 9, 2) * 20
        due = Player(small(), begin=4, again=8, most=30, wait=0)
        player = Player(small())
        self.assertEqual(due.over(speeds), player.over(speeds))
        self.assertEqual((due.stand_now(), due.gone_by()), (player.stand_now(), player.gone_by()))
        named = {"begin": 2, "again": 3, "most": 5, "wait": 2}
        told = set()
        for order in itertools.permutations(named.items()):
            player = Player(small(), **dict(order))
            player.over(speeds[:17])
            told.add((player.stand_now(), player.gone_by()))
        self.assertEqual(len(told), 1)
        pair = self.pair(**named)
        self.both(pair, "over", speeds[:17])
        self.assertEqual(told, {(pair[0].stand_now(), 17)})


class OverTest(PlayersTest):

    def test_by_none_each_rate_is_nought(self):
        player = Player(small())
        self.assertEqual(player.over((10, 6, 8) + (1,) * 5), 8)
        self.assertEqual(player.stand_now(), (3, -1, 0, 2, 7, 1))
        self.assertEqual(player.over((1,) * 5), 2)
        self.assertEqual(player.over((1,)), 0)
        self.assertEqual(player.over(()), 0)
        self.assertEqual(player.notes(), (("over", "done"),) * 4)
        self.assertEqual(player.over((), rule=None), 0)

    def test_in_one_or_more_pieces(self):
        dice = random.Random(172)
        for _ in range(100):
            talk = some_talk(dice, dice.randint(1, 5), dice.randint(1, 4), 5, 20)
            options = some_options(dice, talk, 6)
            rule = some_rule(dice, talk.many_rates())
            speeds = speeds_of(some_road(dice, 6, 9, 9), 300)
            run = run_of(talk, known((*speeds, 1)), rule, **options)
            whole = self.pair(talk, **options)
            many = min(run.ended, 300)
            self.assertEqual(self.both(whole, "over", tuple(speeds), rule), ("done", many))
            parts, asked = self.pair(talk, **options), []

            def asking(seen):
                asked.append(seen[0])
                return rule(seen)
            left = speeds
            while left:
                cut = dice.randint(0, 12)
                self.told_of(parts[0], "over", tuple(left[:cut]), rule=asking)
                left = left[cut:]
            self.assertEqual(parts[0].stand_now(), whole[0].stand_now())
            self.assertEqual(parts[0].gone_by(), many)
            # Just once for each stretch, wherever the pieces are cut.
            self.assertEqual(asked, list(range(len(asked))))
            if run.ended <= 300:
                self.assertEqual(asked, list(range(len(talk.lengths))))

    def test_what_the_rule_is_shown(self):
        for wait in (0, 2):
            seen = []
            player = Player(small(), wait=wait)
            player.choose(1)
            player.over((5,) * 20, rule=lambda shown: seen.append(shown) or 1)
            last = [(shown[3].bits, shown[3].beats) for shown in seen]
            self.assertEqual([shown[:3] for shown in seen], [(1, 4, 1), (2, 2 if wait else 3, 1)])
            self.assertEqual(last, [(25, 5 + wait), (12, 3 + wait)])
            self.assertEqual([type(shown[3]) for shown in seen], [Speed, Speed])

    def test_first_of_all_it_is_shown_nothing(self):
        seen = []
        Player(small()).over((1,), rule=lambda shown: seen.append(shown) or 0)
        self.assertEqual(seen, [(0, 0, None, None)])

    def test_what_the_rule_tells_is_taken_for_nought_where_it_is_no_rate(self):
        for told in (None, True, False, -1, 2, "1", (1,), [1], 10 ** 39):
            player = Player(small())
            player.over((9,), rule=lambda seen: told)
            self.assertEqual(player.stand_now(), (0, 0, 9, 0, 0, 0))
        player = Player(small())
        player.over((9,), rule=lambda seen: 1)
        self.assertEqual(player.stand_now(), (0, 1, 9, 0, 0, 0))

    def test_a_choice_made_by_hand_is_not_asked_again(self):
        asked = []
        player = Player(small())
        player.choose(1)
        player.over((9, 9), rule=lambda seen: asked.append(0))
        self.assertEqual((asked, player.stand_now()), ([], (0, 1, 18, 0, 0, 0)))

    def test_behind_its_last_beat_nothing_is_chosen(self):
        asked = []
        player = Player(small())
        self.assertEqual(player.over((10,), rule=lambda seen: asked.append(0)), 1)
        self.assertEqual((len(asked), player.stand_now()), (1, (1, -1, 0, 4, 0, 0)))
        player.over((), rule=lambda seen: asked.append(0))
        self.assertEqual((len(asked), player.stand_now()), (1, (1, -1, 0, 4, 0, 0)))

    def test_speeds_behind_the_end_are_not_looked_at(self):
        player = Player(Talk((1,), ((1,),)))
        self.assertEqual(player.over((1, 0, None, "x", -1)), 2)
        self.assertEqual(player.over((None,)), 0)
        self.assertEqual(player.notes(), (("over", "done"),) * 2)

    def test_no_pace_keeps_what_was_done_ahead(self):
        for thing in [thing for thing in things() if not is_number(thing) or thing < 0]:
            pair = self.pair()
            self.assertEqual(self.both(pair, "over", (4, 5, thing, 1)), ("NoPace", thing))
            self.assertEqual((pair[0].stand_now(), pair[0].gone_by()), ((0, 0, 9, 0, 0, 0), 2))
            self.assertEqual(pair[0].notes(), (("over", "NoPace"),))
            # The one that asks isn't asked of a wrong speed.
            asked = []
            player = Player(small())
            player.over((10,))
            name, _ = self.told_of(player, "over", (thing,), rule=lambda seen: asked.append(0))
            self.assertEqual((name, asked, player.stand_now()), ("NoPace", [], (1, -1, 0, 4, 0, 0)))

    def test_six_hundred_speeds_at_once(self):
        talk = Talk((20,) * 12, ((400,),) * 12)
        pair = self.pair(talk)
        self.assertEqual(self.both(pair, "over", (9,) * 600)[1], 600)


class RefusalsTest(PlayersTest):

    def test_not_now_of_a_choice(self):
        player = Player(small(), most=4)
        player.choose(0)
        self.assertEqual(self.refused(player, "choose", 0), ("NotNow", (0, 0, 0, 0, 0, 0)))
        player.beat(10)
        # Want of room.
        self.assertEqual(self.refused(player, "choose", 0), ("NotNow", (1, -1, 0, 4, 0, 0)))
        player.over((1, 1))
        player.choose(1)
        player.over((50,) * 20)
        self.assertEqual(self.refused(player, "choose", 0), ("NotNow", (3, -1, 0, 0, 9, 1)))

    def test_no_rate(self):
        player = Player(small())
        for thing in [thing for thing in things() if not is_number(thing) or thing not in (0, 1)] + [2, -1]:
            name, told = self.refused(player, "choose", thing)
            self.assertEqual(name, "NoRate")
            self.assertIs(told, thing)
        self.assertEqual(Player(small()).choose(1), None)

    def test_not_now_ahead_of_no_rate(self):
        player = Player(small())
        player.choose(0)
        for thing in things():
            self.assertEqual(self.refused(player, "choose", thing), ("NotNow", (0, 0, 0, 0, 0, 0)))

    def test_no_pace(self):
        player = Player(small())
        player.choose(0)
        for thing in [thing for thing in things() if not is_number(thing) or thing < 0]:
            name, told = self.refused(player, "beat", thing)
            self.assertEqual(name, "NoPace")
            self.assertIs(told, thing)
        self.assertIsNone(player.beat(0))
        self.assertIsNone(player.beat(10 ** 39))
        self.assertEqual(player.stand_now(), (1, -1, 0, 4, 0, 0))

    def test_not_now_ahead_of_no_pace(self):
        player = Player(small())
        for thing in [0, 1, *things()]:
            self.assertEqual(self.refused(player, "beat", thing), ("NotNow", (0, -1, 0, 0, 0, 0)))
        player.over((90,) * 40)
        for thing in [0, 1, *things()]:
            self.assertEqual(self.refused(player, "beat", thing), ("NotNow", (3, -1, 0, 0, 9, 1)))

    def test_no_beat(self):
        player = Player(small())
        player.over((10, 3))
        for thing in [thing for thing in things() if not is_number(thing) or thing not in range(9)] + [9, -1]:
            name, told = self.refused(player, "seek", thing)
            self.assertEqual(name, "NoBeat")
            self.assertIs(told, thing)
        self.assertEqual(self.refused(player, "seek", True)[0], "NoBeat")

    def test_not_now_of_a_skip(self):
        player = Player(small())
        player.seek(6)
        self.assertEqual(self.refused(player, "skip"), ("NotNow", (2, -1, 0, 0, 6, 0)))
        player.seek(8)
        self.assertEqual(self.refused(player, "skip"), ("NotNow", (2, -1, 0, 0, 8, 0)))
        player.over((9,) * 5)
        self.assertEqual(self.refused(player, "skip"), ("NotNow", (3, -1, 0, 0, 9, 1)))
        self.assertEqual(self.refused(Player(Talk((2,), ((1,),))), "skip")[0], "NotNow")

    def test_each_is_the_very_class(self):
        player = Player(small())
        for word, given, kind in (("beat", 1, NotNow), ("choose", 9, NoRate), ("over", (-1,), NoPace), ("seek", 9, NoBeat)):
            with self.assertRaises(kind) as caught:
                getattr(player, word)(given)
            self.assertIs(type(caught.exception), kind)
        self.assertEqual(player.notes(), (("beat", "NotNow"), ("choose", "NoRate"), ("over", "NoPace"), ("seek", "NoBeat")))


class SeeksTest(PlayersTest):

    def kept(self, **options):
        """Beats 0 to 3 are whole, beat 0 is played, and two bits are here of the second stretch."""
        pair = self.pair(**options)
        self.deeds(pair, ("choose", 0), ("beat", 10), ("choose", 0), ("beat", 2))
        self.assertEqual(pair[0].stand_now(), (1, 0, 2, 3, 1, 1))
        return pair

    def test_to_a_beat_that_is_kept(self):
        for beat, thrown in ((1, 0), (2, 1), (3, 2)):
            pair = self.kept()
            self.both(pair, "seek", beat)
            self.assertEqual(pair[0].stand_now(), (1, 0, 2, 3 - thrown, beat, 0))
            self.assertEqual(pair[0].thrown(), thrown)
            # What is coming comes on, in as many beats as it would have.
            self.deeds(pair, ("beat", 4))
            self.assertEqual(pair[0].stand_now()[:3], (2, -1, 0))

    def test_to_the_first_beat_of_what_is_coming(self):
        pair = self.kept()
        self.both(pair, "seek", 4)
        self.assertEqual((pair[0].stand_now(), pair[0].thrown()), ((1, 0, 2, 0, 4, 0), 3))
        self.deeds(pair, ("beat", 4))
        self.assertEqual(pair[0].stand_now(), (2, -1, 0, 2, 4, 0))

    def test_into_the_midst_of_what_is_coming(self):
        pair = self.kept()
        self.both(pair, "seek", 5)
        self.assertEqual((pair[0].stand_now(), pair[0].thrown()), ((1, -1, 0, 0, 5, 0), 3))
        self.deeds(pair, ("choose", 0), ("beat", 6))
        # Just the beat sought is kept, and the next stretch as ever.
        self.assertEqual(pair[0].stand_now(), (2, -1, 0, 1, 5, 0))
        self.deeds(pair, ("choose", 0), ("beat", 8))
        self.assertEqual(pair[0].stand_now(), (3, -1, 0, 4, 5, 0))
        self.assertEqual([told for _, told in self.deeds(pair, *[("beat", 0)] * 4)], [5, 6, 7, 8])

    def test_to_the_first_beat_of_what_comes_next(self):
        pair = self.pair()
        self.deeds(pair, ("over", (10,)), ("seek", 4))
        self.assertEqual((pair[0].stand_now(), pair[0].thrown()), ((1, -1, 0, 0, 4, 0), 4))
        self.deeds(pair, ("choose", 1), ("beat", 12))
        self.assertEqual(pair[0].stand_now(), (2, -1, 0, 2, 4, 0))

    def test_into_the_midst_of_what_comes_next(self):
        pair = self.pair()
        self.deeds(pair, ("over", (10,)), ("seek", 5))
        self.assertEqual((pair[0].stand_now(), pair[0].thrown()), ((1, -1, 0, 0, 5, 0), 4))

    def test_ahead_of_the_beat_that_is_played_next_within_what_is_coming(self):
        for come in ((), (("choose", 0), ("beat", 3))):
            pair = self.pair()
            self.deeds(pair, ("seek", 7), *come)
            ahead = pair[0].stand_now()
            self.both(pair, "seek", 6)
            # Nothing is thrown, and all of it is kept when it is whole.
            self.assertEqual(pair[0].stand_now(), (*ahead[:4], 6, 0))
            self.assertEqual(pair[0].thrown(), 0)
            self.deeds(pair, ("over", (8,)))
            self.assertEqual(pair[0].stand_now(), (3, -1, 0, 3, 6, 0))

    def test_into_the_midst_though_it_was_sought_before(self):
        pair = self.pair()
        self.deeds(pair, ("seek", 7), ("choose", 0), ("beat", 3), ("seek", 7))
        # All that was here of it goes.
        self.assertEqual((pair[0].stand_now(), pair[0].thrown()), ((2, -1, 0, 0, 7, 0), 0))
        self.deeds(pair, ("choose", 0), ("beat", 5), ("beat", 3))
        self.assertEqual(pair[0].stand_now(), (3, -1, 0, 2, 7, 0))

    def test_to_another_beat_of_its_midst(self):
        pair = self.pair()
        self.deeds(pair, ("seek", 7), ("choose", 0), ("beat", 3), ("seek", 8), ("choose", 1), ("beat", 9))
        self.assertEqual(pair[0].stand_now(), (3, -1, 0, 1, 8, 0))
        pair = self.pair()
        self.deeds(pair, ("seek", 2), ("seek", 1), ("over", (10,)))
        self.assertEqual(pair[0].stand_now(), (1, -1, 0, 3, 1, 0))

    def test_to_the_beat_that_is_played_next(self):
        pair = self.kept()
        self.both(pair, "seek", 1)
        self.assertEqual(pair[0].stand_now(), (1, 0, 2, 3, 1, 0))
        # Play has to begin anew, for which four are wanted.
        self.deeds(pair, ("beat", 0), ("beat", 0))
        self.assertEqual(pair[0].stand_now(), (1, 0, 2, 3, 1, 0))
        self.assertEqual(self.both(pair, "beat", 4)[1], None)
        self.deeds(pair, ("choose", 0))
        self.assertEqual(self.both(pair, "beat", 0)[1], 1)

    def test_just_behind_the_last_that_is_kept_where_all_is_whole(self):
        # Nothing comes next, so the beat behind the last one is none at all, and the last one is kept.
        pair = self.pair()
        self.deeds(pair, ("over", (10, 6, 8)), ("seek", 8))
        self.assertEqual(pair[0].stand_now(), (3, -1, 0, 1, 8, 0))
        self.assertEqual(self.both(pair, "seek", 9)[0], "NoBeat")
        self.assertEqual(self.both(pair, "beat", 0)[1], 8)

    def test_back(self):
        pair = self.pair()
        self.deeds(pair, ("over", (10, 6, 8)))
        self.assertEqual(pair[0].stand_now(), (3, -1, 0, 7, 2, 1))
        self.both(pair, "seek", 1)
        self.assertEqual((pair[0].stand_now(), pair[0].thrown()), ((0, -1, 0, 0, 1, 0), 7))
        self.deeds(pair, ("over", (10, 6)))
        self.assertEqual(pair[0].stand_now(), (2, -1, 0, 5, 1, 0))

    def test_back_from_the_end(self):
        pair = self.pair()
        self.deeds(pair, ("over", (90,) * 30), ("seek", 4))
        self.assertEqual((pair[0].stand_now(), pair[0].thrown()), ((1, -1, 0, 0, 4, 0), 0))
        self.deeds(pair, ("over", (90,) * 30))
        self.assertEqual(pair[0].stand_now(), (3, -1, 0, 0, 9, 1))
        played = [number for _, number in pair[1].machine.played]
        self.assertEqual(played, [*range(9), *range(4, 9)])

    def test_far_on(self):
        pair = self.kept()
        self.both(pair, "seek", 7)
        self.assertEqual((pair[0].stand_now(), pair[0].thrown()), ((2, -1, 0, 0, 7, 0), 3))
        self.deeds(pair, ("over", (8, 0, 0)))
        self.assertEqual(pair[0].stand_now(), (3, -1, 0, 0, 9, 1))

    def test_what_was_chosen_and_fetched_last_stays(self):
        # The second stretch is thrown while it comes, so the last rate is its, the last fetch the first one's.
        for wait in (0, 1):
            player, seen = Player(small(), wait=wait), []
            player.over((5, 5), rule=lambda shown: 0) if not wait else player.over((0, 5, 5), rule=lambda shown: 0)
            player.choose(1)
            player.beat(2)
            player.seek(7)
            player.over((1,), rule=lambda shown: seen.append(shown) or 0)
            self.assertEqual(seen[0][:3], (2, 0, 1))
            self.assertEqual((seen[0][3].bits, seen[0][3].beats), (10, 2 + wait))

    def test_a_fetch_is_counted_from_its_own_choice(self):
        player, seen = Player(small()), []
        player.choose(0)
        player.over((1, 1, 1))
        player.seek(2)
        player.choose(1)
        player.over((20, 5))
        player.over((1,), rule=lambda shown: seen.append(shown) or 0)
        self.assertEqual((seen[0][:3], seen[0][3].bits, seen[0][3].beats), ((1, 2, 1), 25, 2))
        # One that a seek leaves coming is counted on.
        player, seen = Player(small()), []
        player.choose(0)
        player.over((1, 1, 1))
        player.seek(0)
        player.over((7,))
        player.over((1,), rule=lambda shown: seen.append(shown) or 0)
        self.assertEqual((seen[0][:3], seen[0][3].bits, seen[0][3].beats), ((1, 4, 0), 10, 4))

    def test_beats_that_go_by_ahead_are_thrown_too(self):
        pair = self.pair(wait=3)
        self.deeds(pair, ("choose", 0), ("beat", 9), ("beat", 9), ("seek", 1), ("choose", 0))
        self.assertEqual(pair[0].stand_now(), (0, 0, -3, 0, 1, 0))
        self.deeds(pair, *[("beat", 9)] * 3, ("beat", 10))
        self.assertEqual(pair[0].stand_now(), (1, -1, 0, 3, 1, 0))

    def test_want_of_room_is_gone_where_beats_are_thrown(self):
        pair = self.pair(most=4)
        self.deeds(pair, ("over", (10,)), ("choose", 0))
        self.assertEqual(pair[0].notes()[-1], ("choose", "NotNow"))
        self.deeds(pair, ("seek", 2), ("choose", 0), ("beat", 6))
        self.assertEqual(pair[0].stand_now(), (2, -1, 0, 4, 2, 0))

    def test_each_beat_from_each_stand(self):
        # From all stands along a talk, gone by several options, to each of its beats, and on from there.
        speeds = (4, 7, 2, 4, 7, 2, 9, 1, 0, 5, 0, 0, 0)
        for options in ({}, {"begin": 1, "again": 1, "most": 4}, {"wait": 2, "begin": 3, "most": 6}):
            for many, first, second in itertools.product(range(len(speeds) + 1), range(9), range(9)):
                pair = self.pair(**options)
                self.deeds(pair, ("over", speeds[:many]), ("seek", first), ("over", (6, 3)), ("seek", second))
                self.deeds(pair, ("over", (9,) * 4))

    def test_a_seek_keeps_just_what_is_of_use(self):
        dice = random.Random(173)
        for _ in range(200):
            talk = some_talk(dice, dice.randint(1, 4), 2, 5, 9)
            player = Player(talk, **some_options(dice, talk, 4))
            player.over([dice.randint(0, 6) for _ in range(dice.randint(0, 20))])
            fetched, _, _, kept, played, _ = player.stand_now()
            beat = dice.randrange(len(talk))
            there = set(range(played, played + kept))
            player.seek(beat)
            _, _, _, kept, played, going = player.stand_now()
            self.assertEqual((played, going), (beat, 0))
            self.assertEqual(kept, len([each for each in there if each >= beat]) if beat in there else 0)
            self.assertEqual(player.thrown(), len(there) - kept)


class SkipsTest(PlayersTest):

    def test_behind_the_stretch_that_is_played_next(self):
        for many, due, thrown in ((0, (1, -1, 0, 0, 4, 0), 0), (1, (1, -1, 0, 0, 4, 0), 4), (2, (2, -1, 0, 2, 4, 0), 3)):
            pair = self.pair()
            self.deeds(pair, ("over", (10, 6, 8)[:many]), ("skip",))
            self.assertEqual((pair[0].stand_now(), pair[0].thrown()), (due, thrown))

    def test_of_what_is_coming(self):
        # What comes of the beat played next goes; one behind it that is coming stays.
        pair = self.pair()
        self.deeds(pair, ("choose", 0), ("beat", 3), ("skip",))
        self.assertEqual(pair[0].stand_now(), (1, -1, 0, 0, 4, 0))
        pair = self.pair()
        self.deeds(pair, ("over", (10, 3)), ("skip",))
        self.assertEqual((pair[0].stand_now(), pair[0].thrown()), ((1, 0, 3, 0, 4, 0), 3))
        self.deeds(pair, ("skip",))
        self.assertEqual((pair[0].stand_now(), pair[0].thrown()), ((2, -1, 0, 0, 6, 0), 3))
        self.assertEqual(self.both(pair, "skip")[0], "NotNow")

    def test_from_the_midst_of_one_that_was_sought(self):
        pair = self.pair()
        self.deeds(pair, ("seek", 2), ("choose", 0), ("beat", 3), ("skip",))
        self.assertEqual(pair[0].stand_now(), (1, -1, 0, 0, 4, 0))

    def test_it_has_a_note_of_its_own_alone(self):
        pair = self.pair()
        self.deeds(pair, ("skip",), ("skip",), ("skip",))
        self.assertEqual(pair[0].notes(), (("skip", "done"), ("skip", "done"), ("skip", "NotNow")))

    def test_as_seeks(self):
        dice = random.Random(174)
        for _ in range(200):
            talk = some_talk(dice, dice.randint(2, 5), 2, 4, 9)
            options, speeds = some_options(dice, talk, 4), [dice.randint(0, 6) for _ in range(dice.randint(0, 25))]
            one, other = Player(talk, **options), Player(talk, **options)
            one.over(speeds), other.over(speeds)
            beat = one.stand_now()[4]
            if beat == len(talk) or talk.place(beat)[0] == len(talk.lengths) - 1:
                self.assertEqual(self.refused(one, "skip"), ("NotNow", other.stand_now()))
                continue
            one.skip()
            other.seek(sum(talk.lengths[:talk.place(beat)[0] + 1]))
            self.assertEqual((one.stand_now(), one.thrown()), (other.stand_now(), other.thrown()))


class DeedsTest(PlayersTest):

    def some_deed(self, dice, talk, pair):
        machine = pair[1].machine
        wrong = dice.choice(things())
        word = dice.choice(("choose", "choose", "beat", "beat", "beat", "over", "over", "seek", "skip", "wrong"))
        if word == "choose":
            return ("choose", dice.randint(0, talk.many_rates()))
        if word == "beat":
            return ("beat", dice.choice((0, 1, 3, 9)))
        if word == "over":
            speeds = [dice.choice((0, 1, 2, 5)) for _ in range(dice.randint(0, 15))]
            if dice.random() < 0.1:
                speeds.insert(dice.randint(0, len(speeds)), wrong)
            return ("over", tuple(speeds), dice.choice((None, some_rule(dice, talk.many_rates()))))
        if word == "seek":
            near = [machine.next, machine.next + len(machine.store), *machine.store, dice.randint(0, machine.all)]
            if machine.stretch < len(machine.spans):
                near += [machine.spans[machine.stretch][0], machine.spans[machine.stretch][-1]]
            return ("seek", dice.choice(near))
        if word == "wrong":
            return (dice.choice(("choose", "beat", "seek")), wrong)
        return ("skip",)

    def test_against_the_machine(self):
        dice = random.Random(175)
        for _ in range(250):
            talk = some_talk(dice, dice.randint(1, 5), dice.randint(1, 3), dice.choice((1, 3, 6)), dice.choice((4, 15)))
            options = {} if dice.random() < 0.2 else some_options(dice, talk, dice.choice((2, 6)))
            pair = self.pair(talk, **options)
            for _ in range(dice.choice((20, 60))):
                self.both(pair, *self.some_deed(dice, talk, pair))
                fetched, coming, _, kept, played, _ = pair[0].stand_now()
                # The store never goes above its most, and holds just what comes next.
                self.assertLessEqual(kept, options.get("most", 30))
                self.assertIn(played + kept, range(sum(talk.lengths[:fetched]), sum(talk.lengths[:fetched + 1]) + 1))

    def test_two_hundred_deeds(self):
        dice = random.Random(176)
        talk = Talk((20,) * 12, ((100, 1000),) * 12)
        pair = self.pair(talk, most=40)
        for _ in range(200):
            self.both(pair, *self.some_deed(dice, talk, pair))
        self.assertEqual(len(pair[0].notes()), 200)


if __name__ == "__main__":
    unittest.main()
