"""Whole numbers: what is one, and which one a word writes."""


def is_whole(thing):
    """Tell whether the thing is a whole number."""
    # A truth is an int for Python, but no whole number here.
    return isinstance(thing, int) and not isinstance(thing, bool)


def is_rate(talk, thing):
    """Tell whether the thing is the number of a rate of the talk."""
    return is_whole(thing) and 0 <= thing < talk.many_rates()


def written_whole(word, most):
    """Tell the number from 1 to most that the word writes, 0 where it writes none."""
    # isdigit alone holds for figures of other scripts, too.
    if not word.isascii() or not word.isdigit() or word[0] == "0":
        return 0
    # Python reads no number of very many figures, so such a word is not tried.
    if len(word) > len(str(most)) or int(word) > most:
        return 0
    return int(word)
