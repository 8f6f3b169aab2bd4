"""Talks as texts: how one is written, and read again."""

from rateplan.bounds import MOST_BEATS, MOST_BITS, MOST_RATES, MOST_STRETCHES
from rateplan.errors import NoText
from rateplan.talks import Talk
from rateplan.wholes import written_number


def show_talk(talk):
    """Tell the talk written: a line of its rates, then one of each stretch."""
    lines = [f"rates {talk.many_rates()}"]
    for beats, bits in zip(talk.lengths, talk.sizes):
        words = [str(beats), ":"] + [str(bit) for bit in bits]
        lines.append(" ".join(words))
    return "\n".join(lines)


def read_talk(text):
    """Tell the talk that the text writes; NoText with the number of its first wrong line."""
    if not isinstance(text, str):
        raise NoText(0)
    lines = text.split("\n")
    rates = _read_rates(lines[0])
    if not rates:
        raise NoText(0)
    if len(lines) == 1:
        raise NoText(1)
    lengths = []
    sizes = []
    for at, line in enumerate(lines[1:], start=1):
        numbers = _read_stretch(line, rates)
        if at > MOST_STRETCHES or numbers is None:
            raise NoText(at)
        lengths.append(numbers[0])
        sizes.append(numbers[1:])
    return Talk(tuple(lengths), tuple(sizes))


def _read_rates(line):
    """Tell how many rates the first line tells, 0 or None where it is none such."""
    words = line.split(" ")
    if len(words) != 2 or words[0] != "rates":
        return None
    return written_number(words[1], MOST_RATES)


def _read_stretch(line, rates):
    """Tell a stretch's beats and then its bits, one tuple of all, None where the line is none such."""
    # Split at each single blank: two together, or one at an end, leave an empty word, which is no number.
    words = line.split(" ")
    if len(words) != rates + 2 or words[1] != ":":
        return None
    beats = written_number(words[0], MOST_BEATS)
    bits = [written_number(word, MOST_BITS) for word in words[2:]]
    if not beats or not all(bits):
        return None
    return (beats, *bits)
