"""A desk: it is told lines, keeps talks, roads and plans by their names, and answers what is asked of them."""

from rateplan.answers import answer_of, fits
from rateplan.errors import NoFit, NoName
from rateplan.lines import read_line
from rateplan.options import AGAIN, BEGIN, MOST
from rateplan.rights import is_right_plan

# Of what sort each name is that a line asks about, in their order.
SORTS = {
    "run": ("talk", "road", "plan"),
    "when": ("talk", "road", "plan"),
    "best": ("talk", "road"),
    "never": ("talk", "plan"),
}


class Desk:
    """A desk with nothing on it, the options being as they are where they are left out."""

    def __init__(self):
        self._kept = {"talk": {}, "road": {}, "plan": {}}
        self._options = {"begin": BEGIN, "again": AGAIN, "most": MOST, "wait": 0}

    def say(self, text):
        """Tell the answer to a line; NoText(0), NoName, NoFit and NoRoom, in this order, of what is refused."""
        word, told = read_line(text)
        if word in SORTS:
            return self._ask(word, *told)
        if word == "names":
            return self._names()
        if word == "drop":
            self._drop(*told)
        elif word == "set":
            option, number = told
            self._options[option] = number
        else:
            name, thing = told
            self._kept[word][name] = thing
        return "ok"

    def _ask(self, word, names, told):
        sorts = SORTS[word]
        things = [self._found(sort, name) for sort, name in zip(sorts, names)]
        talk = things[0]
        if not fits(word, talk, told):
            raise NoFit(names[0])
        if sorts[-1] == "plan" and not is_right_plan(talk, things[-1]):
            raise NoFit(names[-1])
        return answer_of(word, things, told, self._options)

    def _found(self, sort, name):
        if name not in self._kept[sort]:
            raise NoName(name)
        return self._kept[sort][name]

    def _names(self):
        every = [name for kept in self._kept.values() for name in kept]
        return " ".join(sorted(set(every))) if every else "none"

    def _drop(self, name):
        sorts = [sort for sort in self._kept if name in self._kept[sort]]
        if not sorts:
            raise NoName(name)
        for sort in sorts:
            del self._kept[sort][name]
