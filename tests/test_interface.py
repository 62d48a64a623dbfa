"""What is listed must stand in its file, under its name, with its parameters."""

import inspect
import unittest
from collections import Counter

from othersknow import (desk, healing, late, listeners, machines, pages, partitions, reports, roster, spares, teams, texts,
                        ticks, verdicts)

# For each name the parameters, as they are written in the document.
FUNCTIONS = {
    machines.is_alphabet: "(value)",
    machines.alike: "(one, other)",
    reports.report_of: "(team, number, *, silent=())",
    reports.fitting: "(team, report, *, wrong=0)",
    reports.is_safe: "(team, *, silent=0, wrong=0)",
    reports.need: "(team, *, silent=0, wrong=0)",
    reports.bearable: "(team)",
    partitions.is_partition: "(machine, value)",
    partitions.is_image: "(machine, value)",
    partitions.finest: "(machine)",
    partitions.closure: "(machine, blocks)",
    partitions.joined: "(machine, blocks, one, other)",
    partitions.met: "(machine, one, other)",
    partitions.quotient: "(machine, blocks)",
    partitions.images: "(machine, *, apart=())",
    partitions.image_count: "(machine, *, apart=())",
    partitions.is_coarsest: "(machine, blocks, *, apart=())",
    partitions.coarsest: "(machine, *, apart=())",
    spares.useful: "(team)",
    spares.least_spares: "(team, *, silent=0, wrong=0)",
    spares.are_spares: "(team, value, *, silent=0, wrong=0)",
    spares.with_spares: "(team, blocks)",
    verdicts.verdict: "(team, *, silent=0, wrong=0)",
    ticks.relation_holds: "(team, count, pairs)",
    late.late_pair_holds: "(team, group, count, value)",
    healing.open_pairs: "(team, group)",
    healing.healed_by: "(team, group, word)",
    healing.healing: "(team, group)",
    texts.machine_text: "(machine)",
    texts.team_text: "(team)",
    texts.read_machine: "(text)",
    texts.read_team: "(text)",
    texts.report_text: "(report)",
    texts.read_report: "(text)",
    pages.write_roster: "(roster)",
    pages.read_roster: "(text)",
}
FILES = {machines: 2, reports: 5, partitions: 11, spares: 4, verdicts: 1, ticks: 1, late: 1, healing: 3, texts: 6,
         pages: 2}
CLASSES = {
    machines.Machine: {
        "__init__": "(self, alphabet, moves)",
        "moves": "(self)",
        "reachable": "(self)",
        "behind": "(self, word, *, state=0)",
        "far": "(self, parts, *, state=0)",
        "word_to": "(self, state)",
        "standard": "(self)",
        "ring": "(cls, alphabet, size)",
        "counter": "(alphabet, size, *, letter)",
        "__eq__": "(self, other)",
        "__len__": "(self)",
        "__repr__": "(self)",
    },
    teams.Team: {
        "__init__": "(self, machines)",
        "machines": "(self)",
        "joint_states": "(self)",
        "joint": "(self)",
        "behind": "(self, word)",
        "number_of": "(self, states)",
        "word_to": "(self, number)",
        "parting": "(self, one, other)",
        "weakest": "(self)",
        "with_machines": "(self, *more)",
        "without": "(self, index)",
        "__eq__": "(self, other)",
        "__len__": "(self)",
        "__repr__": "(self)",
    },
    verdicts.Verdict: {
        "__init__": "(self, team, silent, wrong)",
        "told": "(self)",
        "holds": "(self)",
        "__bool__": "(self)",
        "__repr__": "(self)",
    },
    verdicts.Safe: {
        "__init__": "(self, team, silent, wrong, states)",
        "listed_states": "(self)",
        "holds": "(self)",
        "__repr__": "(self)",
    },
    verdicts.Unsafe: {
        "__init__": "(self, team, silent, wrong, one, other, report)",
        "holds": "(self)",
        "__repr__": "(self)",
    },
    ticks.Ticks: {
        "__init__": "(self, team)",
        "behind": "(self, number, count)",
        "spread": "(self, numbers, count)",
        "distance_after": "(self, count)",
        "is_safe": "(self, count, *, silent=0, wrong=0)",
        "safe_counts": "(self, *, silent=0, wrong=0)",
        "__eq__": "(self, other)",
        "__repr__": "(self)",
    },
    late.Late: {
        "__init__": "(self, team, group)",
        "group": "(self)",
        "clear": "(self, count)",
        "late_pair": "(self, count)",
        "clear_counts": "(self)",
        "__repr__": "(self)",
    },
    healing.Healing: {
        "__init__": "(self, team, group)",
        "group": "(self)",
        "holds": "(self)",
        "told": "(self)",
        "__bool__": "(self)",
        "__repr__": "(self)",
    },
    healing.Heals: {
        "__init__": "(self, team, group, letters, numbers)",
        "numbers": "(self)",
        "holds": "(self)",
        "told": "(self)",
        "__bool__": "(self)",
        "__repr__": "(self)",
    },
    healing.Never: {
        "__init__": "(self, team, group, pair, word)",
        "holds": "(self)",
        "told": "(self)",
        "__bool__": "(self)",
        "__repr__": "(self)",
    },
    listeners.Listener: {
        "__init__": "(self, team, *, wrong=0, late=False)",
        "known": "(self)",
        "state": "(self)",
        "tick": "(self, count=1)",
        "hear": "(self, report)",
        "hear_all": "(self, *items)",
        "back": "(self)",
        "twin": "(self)",
        "__len__": "(self)",
    },
    roster.Roster: {
        "__init__": "(self, *, limit=10)",
        "set_limit": "(self, value)",
        "apply": "(self, *commands)",
        "undo": "(self)",
        "redo": "(self)",
        "forget": "(self)",
        "history": "(self)",
        "names": "(self)",
        "team_named": "(self, name)",
        "ticks": "(self, name)",
        "kept": "(self)",
        "twin": "(self)",
        "__contains__": "(self, value)",
        "__len__": "(self)",
        "__eq__": "(self, other)",
        "__repr__": "(self)",
    },
    desk.Desk: {
        "__init__": "(self, *, roster=None)",
        "say": "(self, line)",
        "__call__": "(self, line)",
        "roster": "(self)",
        "log": "(self)",
        "__len__": "(self)",
    },
}
PLACES = {machines: ["Machine"], teams: ["Team"], verdicts: ["Verdict", "Safe", "Unsafe"],
          ticks: ["Ticks"], late: ["Late"], healing: ["Healing", "Heals", "Never"], listeners: ["Listener"],
          roster: ["Roster"], desk: ["Desk"]}
PROPERTIES = {machines.Machine: ["alphabet", "states"], teams.Team: ["alphabet", "distance"],
              verdicts.Verdict: ["team", "silent", "wrong"], verdicts.Unsafe: ["one", "other", "report"],
              ticks.Ticks: ["team", "begin", "period"], late.Late: ["team"], healing.Healing: ["team", "letters"],
              healing.Heals: ["letters"], healing.Never: ["pair", "road"],
              listeners.Listener: ["team", "wrong", "sure", "heard", "since", "busy"],
              roster.Roster: ["limit", "busy", "computed"]}
VALUES = {machines.Machine: {"STATES": 24}, teams.Team: {"MOST": 6, "JOINT": 24}, roster.Roster: {"MOST": 12}}


class Interface(unittest.TestCase):
    def test_functions(self):
        for function, text in FUNCTIONS.items():
            with self.subTest(function=function.__name__):
                self.assertEqual(str(inspect.signature(function)), text)

    def test_functions_stand_in_their_files(self):
        self.assertEqual(Counter(function.__module__ for function in FUNCTIONS),
                         {place.__name__: many for place, many in FILES.items()})

    def test_classes_stand_in_their_files(self):
        for place, names in PLACES.items():
            for name in names:
                self.assertEqual(getattr(place, name).__module__, place.__name__)

    def test_images_is_a_generator(self):
        self.assertTrue(inspect.isgeneratorfunction(partitions.images))

    def test_methods_stand_in_their_class_itself(self):
        for held, methods in CLASSES.items():
            for name, text in methods.items():
                with self.subTest(held=held.__name__, name=name):
                    method = vars(held)[name]
                    self.assertEqual(str(inspect.signature(getattr(method, "__func__", method))), text)

    def test_class_methods_and_static_methods(self):
        self.assertIsInstance(vars(machines.Machine)["ring"], classmethod)
        self.assertIsInstance(vars(machines.Machine)["counter"], staticmethod)

    def test_properties(self):
        for held, names in PROPERTIES.items():
            for name in names:
                self.assertIsInstance(vars(held)[name], property)

    def test_one_property_alone_can_be_assigned(self):
        setters = [(held.__name__, name) for held, names in PROPERTIES.items() for name in names
                   if vars(held)[name].fset is not None]
        self.assertEqual(setters, [("Roster", "limit")])

    def test_class_values(self):
        for held, values in VALUES.items():
            for name, value in values.items():
                self.assertEqual(vars(held)[name], value)


if __name__ == "__main__":
    unittest.main()
