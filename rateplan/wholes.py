"""Whole numbers: what is one, and which one a word writes."""


def is_whole(thing):
    """Tell whether the thing is a whole number."""
    # A truth is an int for Python, but no whole number here.
    return isinstance(thing, int) and not isinstance(thing, bool)


def is_within(thing, least, most):
    """Tell whether the thing is a whole number from least to most."""
    return is_whole(thing) and least <= thing <= most


def is_count(thing):
    """Tell whether the thing is a whole number from 0 on."""
    return is_whole(thing) and thing >= 0


def is_rate(talk, thing):
    """Tell whether the thing is the number of a rate of the talk."""
    return is_count(thing) and thing < talk.many_rates()


def is_written(word):
    """Tell whether the word writes a whole number from 0 on, in figures without noughts ahead."""
    # isdigit alone holds for figures of other scripts, too.
    return word.isascii() and word.isdigit() and (word == "0" or word[0] != "0")


def written_number(word, most):
    """Tell the number from 0 to most that the word writes, None where it writes none such."""
    # Python reads no number of very many figures, so such a word is not tried.
    if not is_written(word) or len(word) > len(str(most)) or int(word) > most:
        return None
    return int(word)
