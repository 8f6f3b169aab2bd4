"""Findings: what may be said of runs, best plans and stalls, and whether it is so."""

from rateplan.bestchecks import shown_worth
from rateplan.neverchecks import never_holds, stalls_holds
from rateplan.rights import fits_best, fits_never, is_right_kind, is_right_plan, is_right_road, is_right_talk
from rateplan.rights import is_right_terms
from rateplan.roads import Road
from rateplan.runs import run_of
from rateplan.talks import Talk
from rateplan.wholes import is_whole
from rateplan.worths import worth_of


def finding_holds(thing):
    """Tell whether the thing is a finding that holds."""
    if not isinstance(thing, tuple) or len(thing) not in (6, 7):
        return False
    word, lengths, sizes, *told = thing
    if not is_right_talk(lengths, sizes):
        return False
    talk = Talk(lengths, sizes)
    if word == "run" and len(told) == 4:
        return _run_holds(talk, *told)
    if word == "best" and len(told) == 4:
        return _best_holds(talk, *told)
    if word == "never" and len(told) == 3:
        return _is_asked_of_never(talk, *told) and never_holds(talk, *told)
    if word == "stalls" and len(told) == 3:
        return _is_asked_of_never(talk, *told) and stalls_holds(talk, *told)
    return False


def _run_holds(talk, pieces, plan, plays, ended):
    if not is_right_road(pieces) or not is_right_plan(talk, plan):
        return False
    # A truth is as a number beside it, but no finding.
    if not isinstance(plays, tuple) or not all([is_whole(beat) for beat in plays]) or not is_whole(ended):
        return False
    run = run_of(talk, Road(pieces), plan)
    return plays == run.plays and ended == run.ended


def _best_holds(talk, pieces, terms, plan, paper):
    if not fits_best(talk) or not is_right_terms(talk, terms):
        return False
    if not is_right_road(pieces) or not is_right_plan(talk, plan):
        return False
    road = Road(pieces)
    return shown_worth(talk, road, terms, paper) == worth_of(talk, run_of(talk, road, plan), terms)


def _is_asked_of_never(talk, plan, kind, _):
    return fits_never(talk) and is_right_plan(talk, plan) and is_right_kind(kind)
