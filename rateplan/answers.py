"""Answers of a desk: what a line asks of a talk and of a road or a plan, or both, under options."""

from rateplan.best import best_plan
from rateplan.errors import TooMany
from rateplan.nevers import never_stalls
from rateplan.rights import fits_best, fits_never
from rateplan.runs import run_of
from rateplan.wholes import written_number
from rateplan.worths import worth_of


def fits(word, talk, told):
    """Tell whether a talk fits what a line, begun with the word, asks of it."""
    if word == "when":
        return written_number(told, len(talk) - 1) is not None
    if word == "best":
        return fits_best(talk) and len(told[0]) == talk.many_rates()
    return word != "never" or fits_never(talk)


def answer_of(word, things, told, options):
    """Tell the answer to a line, begun with the word, of the things that it names."""
    answer = ANSWERS[word]
    return answer(things, told, options)


def _run_answer(things, _, options):
    talk, road, plan = things
    run = run_of(talk, road, plan, **options)
    return _row((run.plays[0], sum([many for _, many in run.stalls]), run.ended))


def _when_answer(things, told, options):
    talk, road, plan = things
    run = run_of(talk, road, plan, **options)
    return str(run.plays[int(told)])


def _best_answer(things, told, options):
    talk, road = things
    plan, _ = best_plan(talk, road, told, **options)
    run = run_of(talk, road, plan, **options)
    return _row((worth_of(talk, run, told), *plan))


def _never_answer(things, told, options):
    talk, plan = things
    try:
        verdict, found = never_stalls(talk, plan, told, **options)
    except TooMany:
        return "too many"
    # The paper is of no use in a line.
    return verdict if verdict == "never" else f"{verdict} {_row(found)}"


def _row(numbers):
    return " ".join([str(number) for number in numbers])


ANSWERS = {"run": _run_answer, "when": _when_answer, "best": _best_answer, "never": _never_answer}
