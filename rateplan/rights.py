"""What is right, and within the bounds: talks, roads, plans, terms and kinds, of anything."""

from rateplan.bounds import BEST_BITS, BEST_RATES, BEST_STRETCHES, MOST_BEATS, MOST_BITS, MOST_PIECE_BEATS
from rateplan.bounds import MOST_PIECES, MOST_RATES, MOST_SPEED, MOST_STRETCHES, MOST_TERM, MOST_WIDE, NEVER_STRETCHES
from rateplan.wholes import is_rate, is_within


def is_right_talk(lengths, sizes):
    """Tell whether these are the fields of a talk."""
    if not _is_row(lengths, MOST_STRETCHES, 1, MOST_BEATS):
        return False
    if not isinstance(sizes, tuple) or len(sizes) != len(lengths):
        return False
    if not all([_is_row(bits, MOST_RATES, 1, MOST_BITS) for bits in sizes]):
        return False
    return all([len(bits) == len(sizes[0]) for bits in sizes])


def is_right_road(pieces):
    """Tell whether this is the field of a road."""
    if not isinstance(pieces, tuple) or not 1 <= len(pieces) <= MOST_PIECES:
        return False
    return all([_is_piece(piece) for piece in pieces]) and pieces[-1][1] >= 1


def is_right_plan(talk, plan):
    """Tell whether this has a rate of the talk for each of its stretches, and nothing else."""
    if not isinstance(plan, tuple) or len(plan) != len(talk.lengths):
        return False
    return all([is_rate(talk, rate) for rate in plan])


def is_right_terms(talk, terms):
    """Tell whether these are terms by which plans of the talk are told apart."""
    if not isinstance(terms, tuple) or len(terms) != 4:
        return False
    worths, change, stall, late = terms
    if not _is_row(worths, MOST_RATES, -MOST_TERM, MOST_TERM) or len(worths) != talk.many_rates():
        return False
    return all([is_within(term, 0, MOST_TERM) for term in (change, stall, late)])


def is_right_kind(kind):
    """Tell whether this is a kind of roads."""
    if not isinstance(kind, tuple) or len(kind) != 4:
        return False
    slow, fast, many, wide = kind
    if not is_within(fast, 0, MOST_SPEED) or not is_within(wide, 1, MOST_WIDE):
        return False
    return is_within(slow, 0, fast - 1) and is_within(many, 0, wide - 1)


def fits_best(talk):
    """Tell whether a talk is within the bounds of those of which a best plan is asked."""
    if len(talk.lengths) > BEST_STRETCHES or talk.many_rates() > BEST_RATES:
        return False
    return all([max(bits) <= BEST_BITS for bits in talk.sizes])


def fits_never(talk):
    """Tell whether a talk is within the bounds of those of which it is asked whether they ever stall."""
    return len(talk.lengths) <= NEVER_STRETCHES


def _is_row(thing, many, least, most):
    """Tell whether the thing is a tuple of one to so many whole numbers from least to most."""
    if not isinstance(thing, tuple) or not 1 <= len(thing) <= many:
        return False
    return all([is_within(part, least, most) for part in thing])


def _is_piece(thing):
    if not isinstance(thing, tuple) or len(thing) != 2:
        return False
    return is_within(thing[0], 1, MOST_PIECE_BEATS) and is_within(thing[1], 0, MOST_SPEED)
