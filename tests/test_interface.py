"""The interface: each name stands in the file that the document lists it under, with its arguments as written there."""

import importlib
import inspect
import unittest

OPTIONS = ("begin", "again", "most", "wait")
DEFAULTS = {"begin": 4, "again": 8, "most": 30, "wait": 0, "limit": 2000, "part": (4, 5), "opens": None, "last": None,
            "key": None, "steps": None, "switches": None, "rule": None}

# The module, the name, what is handed in by its place, and by its name.
FUNCTIONS = """
    talktexts show_talk talk |
    talktexts read_talk text |
    roads known speeds |
    stands first_stand |
    stands is_stand talk thing | most wait
    stands asks talk stand | most
    stands chosen stand rate | wait
    stands gone talk stand speed | begin again most
    runs run_of talk road chooser | begin again most wait opens
    speeds mean speeds | last
    speeds middle speeds |
    speeds slowest speeds | key
    rules by_store steps |
    rules by_speed talk | part
    rules calm rule |
    worths worth_of talk run terms |
    worths in_bounds plan | steps switches
    best best_plan talk road terms | steps switches begin again most wait
    bestchecks shown_worth talk road terms thing | steps switches begin again most wait
    kinds is_of_kind kind thing |
    nevers never_stalls talk chooser kind | limit begin again most wait
    neverchecks never_holds talk chooser kind thing | begin again most wait
    neverchecks stalls_holds talk chooser kind thing | begin again most wait
    twins both_of talks road choosers | begin again most wait
    findings finding_holds thing |
"""

# The module, the class, the method (its name is the class's where it makes one), and as above.
METHODS = """
    errors NoText NoText at |
    errors TooMany TooMany limit |
    errors Unlike Unlike one other |
    errors NoSpeed NoSpeed |
    errors RateError RateError thing |
    talks Talk Talk lengths sizes |
    talks Talk many_rates |
    talks Talk cut first last |
    talks Talk joined other |
    talks Talk place beat |
    talks Talk __len__ |
    talks Talk __eq__ other |
    talks Talk __str__ |
    talks Talk __repr__ |
    roads Road Road pieces |
    roads Road speed_at beat |
    roads Road sum_of first last |
    roads Road fetched begin size | wait
    roads Road behind beat |
    roads Road __len__ |
    roads Road __eq__ other |
    roads Road __str__ |
    speeds Speed Speed bits beats |
    speeds Speed below other |
    speeds Speed floor |
    speeds Speed much beats |
    speeds Speed __eq__ other |
    speeds Speed __str__ |
    runs Run __len__ |
    runs Run __eq__ other |
    twins Twin __len__ |
    twins Twin __eq__ other |
    players Player Player talk | begin again most wait
    players Player choose rate |
    players Player beat speed |
    players Player over speeds | rule
    players Player seek beat |
    players Player skip |
    players Player stand_now |
    players Player gone_by |
    players Player thrown |
    players Player notes |
    tapes Tape Tape talk chooser | begin again most wait
    tapes Tape tell beat speed |
    tapes Tape stand_behind beat |
    tapes Tape played_till beat |
    tapes Tape chosen_till beat |
    tapes Tape __len__ |
    tapes Tape __eq__ other |
    desk Desk Desk |
    desk Desk say text |
"""


def rows(table):
    """Each row as (words ahead of the bar, those behind it)."""
    return [[part.split() for part in line.split("|")] for line in table.strip().split("\n")]


class InterfaceTest(unittest.TestCase):

    def assert_arguments(self, made, by_place, by_name, where):
        parameters = list(inspect.signature(made).parameters.values())
        told = {kind: [each.name for each in parameters if each.kind is kind] for kind in
                (inspect.Parameter.POSITIONAL_OR_KEYWORD, inspect.Parameter.KEYWORD_ONLY)}
        self.assertEqual(list(told.values()), [by_place, by_name], where)
        self.assertEqual(len(parameters), len(by_place) + len(by_name), where)
        for each in parameters:
            if each.name in by_name:
                # Of a road and of a choice, too, no beats go by ahead where that is left out.
                self.assertEqual(each.default, DEFAULTS[each.name], where)
            else:
                self.assertIs(each.default, inspect.Parameter.empty, where)

    def test_functions(self):
        for ahead, by_name in rows(FUNCTIONS):
            module, name, *by_place = ahead
            made = getattr(importlib.import_module(f"rateplan.{module}"), name)
            self.assertTrue(inspect.isfunction(made), name)
            self.assertEqual(made.__module__, f"rateplan.{module}")
            self.assert_arguments(made, by_place, by_name, name)

    def test_classes_and_their_methods(self):
        for ahead, by_name in rows(METHODS):
            module, name, method, *by_place = ahead
            made = getattr(importlib.import_module(f"rateplan.{module}"), name)
            self.assertTrue(inspect.isclass(made), name)
            self.assertEqual(made.__module__, f"rateplan.{module}")
            if method == name:
                self.assert_arguments(made, by_place, by_name, name)
            else:
                # In the class itself, not only in a base class.
                self.assertIn(method, vars(made), name)
                self.assert_arguments(vars(made)[method], ["self", *by_place], by_name, (name, method))

    def test_options(self):
        module = importlib.import_module("rateplan.options")
        told = {name: getattr(module, name) for name in ("BEGIN", "AGAIN", "MOST", "PART", "LIMIT")}
        self.assertEqual(told, {"BEGIN": 4, "AGAIN": 8, "MOST": 30, "PART": (4, 5), "LIMIT": 2000})
        self.assertEqual([DEFAULTS[name] for name in OPTIONS], [4, 8, 30, 0])


if __name__ == "__main__":
    unittest.main()
