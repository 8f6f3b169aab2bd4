"""Lines that a desk is told: which word each one begins with, and what is read behind it."""

from rateplan.bounds import MOST_OPTION, MOST_RATES, MOST_STRETCHES, MOST_TERM
from rateplan.errors import NoText
from rateplan.rights import is_right_kind, is_right_road, is_right_talk
from rateplan.roads import Road
from rateplan.talks import Talk
from rateplan.wholes import is_written, written_number

# The least number of each option.
OPTIONS = {"begin": 1, "again": 1, "most": 1, "wait": 0}


def read_line(text):
    """Tell a line's word and what is read behind it, a tuple; NoText(0) of what is no such line, of anything."""
    if not isinstance(text, str):
        raise NoText(0)
    # Split at each single blank: two together, or one at an end, leave an empty word, which nothing reads.
    word, *words = text.split(" ")
    if word not in READERS:
        raise NoText(0)
    reader = READERS[word]
    told = reader(words)
    if told is None:
        raise NoText(0)
    return (word, told)


def _is_name(word):
    return len(word) <= 8 and word.isascii() and word.isalpha() and word == word.lower()


def _are_names(words, many):
    """Tell whether there are so many words at least, the first so many of them names."""
    return len(words) >= many and all([_is_name(word) for word in words[:many]])


def _number(word):
    """Tell the number that a word writes, None where it writes none, or one beyond all bounds."""
    return written_number(word, MOST_TERM)


def _worth(word):
    """Tell the number that a word writes, `-` being ahead of one below 0, None where it writes none."""
    if not word.startswith("-"):
        return _number(word)
    number = _number(word[1:])
    # Nought stands without the sign.
    return -number if number else None


def _read_talk(words):
    """Tell a name and a talk."""
    if not _are_names(words, 1):
        return None
    lengths = []
    sizes = []
    for word in words[1:]:
        beats, _, bits = word.partition(":")
        lengths.append(_number(beats))
        sizes.append(tuple([_number(bit) for bit in bits.split(",")]))
    if not is_right_talk(tuple(lengths), tuple(sizes)):
        return None
    return (words[0], Talk(tuple(lengths), tuple(sizes)))


def _read_road(words):
    """Tell a name and a road."""
    if not _are_names(words, 1):
        return None
    pieces = []
    for word in words[1:]:
        beats, _, speed = word.partition("x")
        pieces.append((_number(beats), _number(speed)))
    if not is_right_road(tuple(pieces)):
        return None
    return (words[0], Road(tuple(pieces)))


def _read_plan(words):
    """Tell a name and a plan."""
    if not _are_names(words, 1):
        return None
    rates = [written_number(word, MOST_RATES - 1) for word in words[1:]]
    if not 1 <= len(rates) <= MOST_STRETCHES or None in rates:
        return None
    return (words[0], tuple(rates))


def _read_run(words):
    """Tell the names of a talk, a road and a plan, and nothing more."""
    if len(words) != 3 or not _are_names(words, 3):
        return None
    return (tuple(words), None)


def _read_when(words):
    """Tell the names of a talk, a road and a plan, and the number of a beat as it is written, however great."""
    if len(words) != 4 or not _are_names(words, 3) or not is_written(words[3]):
        return None
    return (tuple(words[:3]), words[3])


def _read_best(words):
    """Tell the names of a talk and a road, and terms."""
    if len(words) < 5 or not _are_names(words, 2):
        return None
    change = _number(words[2])
    stall = _number(words[3])
    worths = [_worth(word) for word in words[4:]]
    if change is None or stall is None or None in worths:
        return None
    return (tuple(words[:2]), (tuple(worths), change, stall, 0))


def _read_never(words):
    """Tell the names of a talk and a plan, and a kind of roads."""
    kind = tuple([_number(word) for word in words[2:]])
    if not _are_names(words, 2) or not is_right_kind(kind):
        return None
    return (tuple(words[:2]), kind)


def _read_drop(words):
    """Tell a name."""
    if len(words) != 1 or not _are_names(words, 1):
        return None
    return (words[0],)


def _read_names(words):
    return None if words else ()


def _read_set(words):
    """Tell an option and its number."""
    if len(words) != 2 or words[0] not in OPTIONS:
        return None
    number = written_number(words[1], MOST_OPTION)
    if number is None or number < OPTIONS[words[0]]:
        return None
    return (words[0], number)


READERS = {
    "talk": _read_talk,
    "road": _read_road,
    "plan": _read_plan,
    "run": _read_run,
    "when": _read_when,
    "best": _read_best,
    "never": _read_never,
    "drop": _read_drop,
    "names": _read_names,
    "set": _read_set,
}
