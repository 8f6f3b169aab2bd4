"""Room in the store: what has to fit in there."""

from rateplan.errors import NoRoom


def check_room(talk, most):
    """Refuse a talk of which a stretch is longer than the store, by NoRoom of the first such stretch."""
    for number, beats in enumerate(talk.lengths):
        if beats > most:
            raise NoRoom(number)


def has_room(talk, stand, most):
    """Tell whether the store of a stand, of which not all is fetched, has room for the next stretch."""
    fetched = stand[0]
    kept = stand[3]
    return kept + talk.lengths[fetched] <= most
