import random
import unittest
from itertools import product
from unittest import mock

from helpers import A2, A3, B2, COUNTS, DEEP_LIST, DEEP_TUPLE, MOST, R2, STAY, Case

from test_spares import U300, U301

from othersknow.errors import (AlphabetsDiffer, CapacityExceeded, DuplicateName, InvalidCommand, InvalidCount, InvalidIndex,
                               InvalidLimit, InvalidName, InvalidText, NothingLeft, TeamError, TooMany, UnknownName)
from othersknow.machines import Machine
from othersknow.roster import Roster
from othersknow.spares import least_spares, with_spares
from othersknow.teams import Team
from othersknow.texts import machine_text, read_team, team_text
from othersknow.ticks import Ticks

ONE = "ab 1,0 0,1"
TWO = "ab 1,0 0,1 / ab 0,1 1,0"
WIDE = team_text(Team([Machine.ring("a", 5)]))
NO_NAMES = ["", "A", "aB", "abcdefg", "a b", " a", "a ", "a1", "-", "\u00e4", "a\n", 0, 1, True, False, None, (), [], ("a",),
            ["a"], DEEP_LIST, DEEP_TUPLE]
NO_TEXTS = ["", "ab", "ab 1,0", "ab 1,0 0,2", "ab 1,0 0,1 ", 0, True, None, (), [], (ONE,), [ONE], DEEP_LIST, DEEP_TUPLE]
NO_COUNTS = [-1, MOST + 1, True, False, None, "1", (1,), [1]]
WORDS = {"team": 3, "copy": 3, "add": 3, "spare": 4, "remove": 3, "rename": 3, "drop": 2}


def told(roster):
    """All that a roster tells of itself."""
    return (roster.names(), [roster.team_named(name).machines() for name in roster.names()], len(roster), repr(roster),
            roster.history(), roster.busy, roster.limit, roster.kept(), roster.computed)


def whole(roster):
    """The same, with what it tells behind each step back and on again."""
    found = [told(roster)]
    twin = roster.twin()
    while twin.history()[0] > 0:
        twin.undo()
        found.append(told(twin))
    while twin.history()[1] > 0:
        twin.redo()
        found.append(told(twin))
    return found


def filled(limit=10):
    """A roster with three teams, made in three steps."""
    roster = Roster(limit=limit)
    roster.apply(("team", "one", ONE))
    roster.apply(("team", "two", TWO))
    roster.apply(("team", "ring", WIDE))
    return roster


class RosterCase(Case):
    def stays(self, roster, error, *commands):
        """The error of a step that changes nothing."""
        before = whole(roster)
        caught = self.fails(error, roster.apply, *commands)
        self.assertEqual(whole(roster), before)
        return caught

    def refuses(self, roster, error, given, *commands):
        """The same, with the only thing that the error was given."""
        caught = self.stays(roster, error, *commands)
        told_values = [value for name, value in vars(caught).items() if name != "tag"]
        self.assertEqual((told_values, [value.__class__ for value in told_values]), ([given], [given.__class__]))


class Beginning(RosterCase):
    def test_an_empty_roster(self):
        roster = Roster()
        self.assertEqual(told(roster), ([], [], 0, "Roster(0 teams)", (0, 0), False, 10, [], 0))
        self.assertEqual((Roster.MOST, roster.MOST), (12, 12))
        self.assertIsInstance(roster.history(), tuple)

    def test_limits_of_the_constructor(self):
        for limit in range(1, 13):
            self.assertEqual(Roster(limit=limit).limit, limit)
        for limit in (0, -1, 13, MOST, True, False, None, "1", "", (), [], (1,), [1], DEEP_LIST):
            self.gives(InvalidLimit, limit, Roster, limit=limit)
        with self.assertRaises(TypeError):
            Roster(3)

    def test_repr_and_len(self):
        self.assertEqual((repr(filled()), len(filled())), ("Roster(3 teams)", 3))

    def test_properties_cannot_be_assigned(self):
        for name in ("busy", "computed"):
            with self.assertRaises(AttributeError):
                setattr(Roster(), name, 1)


class Commands(RosterCase):
    def test_team(self):
        roster = Roster()
        self.assertIsNone(roster.apply(("team", "b", TWO)))
        roster.apply(("team", "a", ONE))
        roster.apply(("team", "undo", "q 0"))
        self.assertEqual(roster.names(), ["b", "a", "undo"])
        self.assertEqual(roster.team_named("b"), COUNTS)
        self.assertEqual(roster.team_named(name="undo"), Team([Machine("q", [[0]])]))
        for name in NO_NAMES:
            self.refuses(roster, InvalidName, name, ("team", name, ONE))
            self.refuses(roster, InvalidName, name, ("team", name, "x"))
        for text in NO_TEXTS:
            self.stays(roster, InvalidText, ("team", "c", text))
        self.refuses(roster, DuplicateName, "a", ("team", "a", ONE))
        self.stays(roster, AlphabetsDiffer, ("team", "c", "a 0 / b 0"))
        self.refuses(roster, TooMany, 6, ("team", "c", " / ".join(["a 0"] * 7)))
        self.refuses(roster, TooMany, 24, ("team", "c", WIDE + " / " + machine_text(Machine.ring("a", 6))))

    def test_the_order_of_the_errors_of_team(self):
        roster = filled(limit=3)
        self.refuses(roster, InvalidName, "A", ("team", "A", None))
        self.refuses(roster, DuplicateName, "one", ("team", "one", None))
        self.refuses(roster, CapacityExceeded, 3, ("team", "four", None))
        self.refuses(roster, CapacityExceeded, 3, ("team", "four", ONE))
        roster.set_limit(4)
        self.stays(roster, InvalidText, ("team", "four", "a 0 / b 0 / b"))
        self.stays(roster, AlphabetsDiffer, ("team", "four", "a 0 / b 0"))

    def test_copy(self):
        roster = filled()
        roster.apply(("copy", "two", "again"))
        self.assertEqual(roster.names(), ["one", "two", "ring", "again"])
        self.assertEqual(roster.team_named("again"), COUNTS)
        roster.apply(("add", "again", ONE))
        self.assertEqual((len(roster.team_named("again")), len(roster.team_named("two"))), (3, 2))
        for name in [*NO_NAMES, "three"]:
            self.refuses(roster, UnknownName, name, ("copy", name, "fresh"))
            self.refuses(roster, UnknownName, name, ("copy", name, None))
        for name in NO_NAMES:
            self.refuses(roster, InvalidName, name, ("copy", "two", name))
        self.refuses(roster, DuplicateName, "two", ("copy", "two", "two"))
        self.refuses(roster, DuplicateName, "one", ("copy", "two", "one"))
        roster.set_limit(4)
        self.refuses(roster, CapacityExceeded, 4, ("copy", "two", "five"))
        self.refuses(roster, DuplicateName, "one", ("copy", "two", "one"))
        self.refuses(roster, InvalidName, "", ("copy", "two", ""))
        self.refuses(roster, UnknownName, "", ("copy", "", ""))

    def test_add(self):
        roster = filled()
        roster.apply(("add", "two", ONE))
        self.assertEqual(roster.team_named("two"), Team([A2, B2, A2]))
        self.assertEqual(roster.names(), ["one", "two", "ring"])
        for name in [*NO_NAMES, "three"]:
            self.refuses(roster, UnknownName, name, ("add", name, ONE))
            self.refuses(roster, UnknownName, name, ("add", name, None))
        for text in [*NO_TEXTS, TWO]:
            self.stays(roster, InvalidText, ("add", "two", text))
        self.stays(roster, AlphabetsDiffer, ("add", "two", "a 0"))
        self.refuses(roster, TooMany, 24, ("add", "ring", machine_text(Machine.ring("a", 6))))
        for turn in range(3):
            roster.apply(("add", "two", ONE))
        self.refuses(roster, TooMany, 6, ("add", "two", ONE))
        self.refuses(roster, TooMany, 6, ("add", "two", "a 0"))
        self.stays(roster, InvalidText, ("add", "two", "a 0 "))

    def test_spare(self):
        for silent, wrong in ((0, 0), (1, 0), (0, 1), (1, 1)):
            roster = filled()
            roster.apply(("spare", "two", silent, wrong))
            self.assertEqual(roster.team_named("two"),
                             with_spares(COUNTS, least_spares(COUNTS, silent=silent, wrong=wrong)))
        self.assertEqual(roster.names(), ["one", "two", "ring"])
        roster = filled()
        roster.apply(("spare", "two", 1, 0))
        self.assertEqual(team_text(roster.team_named("two")), TWO + " / ab 1,1 0,0")
        for name in [*NO_NAMES, "three"]:
            self.refuses(roster, UnknownName, name, ("spare", name, 1, 0))
            self.refuses(roster, UnknownName, name, ("spare", name, None, None))
        for value in NO_COUNTS:
            self.refuses(roster, InvalidCount, value, ("spare", "two", value, 0))
            self.refuses(roster, InvalidCount, value, ("spare", "two", value, -7))
            self.refuses(roster, InvalidCount, value, ("spare", "two", 0, value))
        self.refuses(roster, TooMany, 6, ("spare", "two", 9, 0))
        self.refuses(roster, TooMany, 6, ("spare", "two", MOST, MOST))
        many = Roster()
        many.apply(("team", "stay", "a 0 1"), ("team", "wide", team_text(U301)), ("team", "long", team_text(U300)))
        many.apply(("spare", "stay", MOST, MOST))
        self.assertEqual(many.team_named("stay"), Team([Machine("a", [[0], [1]])]))
        self.refuses(many, TooMany, 300, ("spare", "wide", 1, 0))
        self.refuses(many, TooMany, 20000, ("spare", "long", 2, 0))

    def test_remove(self):
        roster = filled()
        roster.apply(("add", "two", machine_text(R2)))
        for index in (3, 4, -1, MOST, True, False, None, "0", "", (), [], (0,), [0], DEEP_LIST):
            self.refuses(roster, InvalidIndex, index, ("remove", "two", index))
        roster.apply(("remove", "two", 1))
        self.assertEqual(roster.team_named("two"), Team([A2, R2]))
        roster.apply(("remove", "two", 0))
        self.assertEqual(roster.team_named("two"), Team([R2]))
        for index in (0, 1, -1, None, True):
            self.refuses(roster, InvalidIndex, index, ("remove", "two", index))
        for name in [*NO_NAMES, "three"]:
            self.refuses(roster, UnknownName, name, ("remove", name, 0))
            self.refuses(roster, UnknownName, name, ("remove", name, None))
        self.assertEqual(roster.names(), ["one", "two", "ring"])

    def test_rename(self):
        roster = filled(limit=3)
        roster.apply(("rename", "one", "zero"))
        self.assertEqual(roster.names(), ["zero", "two", "ring"])
        self.assertEqual(roster.team_named("zero"), Team([A2]))
        self.fails(UnknownName, roster.team_named, "one")
        for name in [*NO_NAMES, "one"]:
            self.refuses(roster, UnknownName, name, ("rename", name, "fresh"))
            self.refuses(roster, UnknownName, name, ("rename", name, None))
        for name in NO_NAMES:
            self.refuses(roster, InvalidName, name, ("rename", "two", name))
        for name in ("zero", "two", "ring"):
            self.refuses(roster, DuplicateName, name, ("rename", "two", name))
            self.refuses(roster, DuplicateName, name, ("rename", name, name))

    def test_drop(self):
        roster = filled()
        roster.apply(("drop", "two"))
        self.assertEqual((roster.names(), len(roster)), (["one", "ring"], 2))
        for name in [*NO_NAMES, "two"]:
            self.refuses(roster, UnknownName, name, ("drop", name))
        roster.apply(("team", "two", ONE))
        self.assertEqual(roster.names(), ["one", "ring", "two"])
        roster.apply(("drop", "one"), ("drop", "ring"), ("drop", "two"))
        self.assertEqual(told(roster)[:4], ([], [], 0, "Roster(0 teams)"))

    def test_names(self):
        for name in ("a", "z", "abcdef", "undo", "names", "none", "ok", "error", "team", "drop"):
            roster = Roster()
            roster.apply(("team", name, ONE))
            self.assertEqual((roster.names(), name in roster), ([name], True))

    def test_values_that_are_no_commands(self):
        for word, size in WORDS.items():
            right = (word, *["one"] * (size - 1))
            for value in (right[:1], right[:-1], (*right, "one"), (*right, None, 0)):
                self.refuses(filled(), InvalidCommand, word, value)
            self.refuses(filled(), InvalidCommand, None, list(right))
        for value in (None, 0, 1, True, "", "drop", "drop one", [], ["drop", "one"], [("drop", "one")], DEEP_LIST):
            self.refuses(filled(), InvalidCommand, None, value)
        self.refuses(filled(), InvalidCommand, None, ())
        for word in ("", "Drop", "drop ", "undo", "names", "limit", 0, 2, True, False, None, (), [], ("drop",), ["drop"],
                     ("drop", "one"), DEEP_LIST, DEEP_TUPLE):
            self.refuses(filled(), InvalidCommand, word, (word,))
            self.refuses(filled(), InvalidCommand, word, (word, "one"))
            self.refuses(filled(), InvalidCommand, word, (word, "one", "two"))
            self.refuses(filled(), InvalidCommand, word, (word, "one", 1, 0))

    def test_commands_are_looked_at_before_the_first_one_is_applied(self):
        right = [("drop", "one"), ("rename", "two", "six"), ("team", "four", ONE)]
        for at in range(4):
            for value, word in ((None, None), ((), None), (("drop",), "drop"), (["drop", "one"], None), (("undo",), "undo"),
                                ((7, "one"), 7)):
                self.refuses(filled(), InvalidCommand, word, *right[:at], value, *right[at:])
        self.refuses(filled(), InvalidCommand, "team", ("drop", "nobody"), ("team", "one"))
        self.refuses(filled(), InvalidCommand, "copy", ("team", "", ""), ("copy",), ("drop",))
        self.refuses(filled(), InvalidCommand, None, ("drop", []), 5)

    def test_lists_in_errors_are_copied(self):
        inner = ["a"]
        caught = self.fails(UnknownName, filled().apply, ("drop", inner))
        inner.append("b")
        self.assertEqual(caught.name, ["a"])
        word = [["x"]]
        caught = self.fails(InvalidCommand, filled().apply, (word,))
        word[0].append(1)
        self.assertEqual(caught.word, [["x"]])


class Steps(RosterCase):
    def test_no_command_and_several_are_one_step(self):
        roster = Roster()
        roster.apply()
        self.assertEqual((roster.history(), roster.names()), ((1, 0), []))
        roster.apply(("team", "a", ONE), ("copy", "a", "b"), ("add", "b", ONE), ("rename", "a", "c"))
        self.assertEqual((roster.history(), roster.names()), ((2, 0), ["c", "b"]))
        roster.apply()
        self.assertEqual((roster.history(), roster.names()), ((3, 0), ["c", "b"]))
        roster.undo()
        self.assertEqual((roster.history(), roster.names()), ((2, 1), ["c", "b"]))
        roster.undo()
        self.assertEqual((roster.history(), roster.names()), ((1, 2), []))
        roster.redo()
        self.assertEqual((roster.history(), roster.names(), roster.team_named("b")), ((2, 1), ["c", "b"], Team([A2, A2])))

    def test_all_or_none(self):
        right = [("team", "four", ONE), ("drop", "one"), ("rename", "two", "one"), ("add", "one", ONE)]
        for at in range(5):
            self.refuses(filled(), UnknownName, "nobody", *right[:at], ("drop", "nobody"), *right[at:])
        self.refuses(filled(limit=4), CapacityExceeded, 4, right[0], ("copy", "one", "five"))
        roster = filled(limit=3)
        roster.apply(("drop", "one"), ("team", "four", ONE))
        self.assertEqual(roster.names(), ["two", "ring", "four"])
        self.refuses(roster, CapacityExceeded, 3, ("team", "six", ONE), ("drop", "four"))

    def test_busy_while_commands_are_applied(self):
        for commands in ((("team", "new", ONE),), (("team", "new", ONE), ("drop", "nobody")), (("team", "new", "x"),)):
            roster = filled()
            seen = []
            with mock.patch("othersknow.roster.read_team", lambda text: seen.append(roster.busy) or read_team(text)):
                error_of(roster.apply, *commands)
            self.assertEqual((seen, roster.busy), ([True], False))

    def test_later_commands_see_what_the_former_ones_did(self):
        roster = filled()
        roster.apply(("rename", "one", "x"), ("rename", "two", "one"), ("rename", "x", "two"))
        self.assertEqual((roster.names(), roster.team_named("one")), (["two", "one", "ring"], COUNTS))
        self.refuses(roster, DuplicateName, "new", ("team", "new", ONE), ("team", "new", ONE))
        self.refuses(roster, UnknownName, "one", ("drop", "one"), ("drop", "one"))

    def test_undo_and_redo(self):
        roster = filled()
        self.assertIsNone(roster.undo())
        self.assertEqual((roster.names(), roster.history()), (["one", "two"], (2, 1)))
        roster.undo()
        self.assertIsNone(roster.redo())
        self.assertEqual((roster.names(), roster.history()), (["one", "two"], (2, 1)))
        roster.redo()
        self.assertEqual((roster.names(), roster.history()), (["one", "two", "ring"], (3, 0)))
        before = whole(roster)
        self.assertEqual(self.fails(NothingLeft, roster.redo).tag, "NothingLeft")
        self.assertEqual(whole(roster), before)
        for turn in range(3):
            roster.undo()
        before = whole(roster)
        self.fails(NothingLeft, roster.undo)
        self.assertEqual(whole(roster), before)
        self.assertEqual((roster.names(), roster.history()), ([], (0, 3)))

    def test_redo_is_gone_behind_a_new_step(self):
        for commands in ((), (("drop", "one"),), (("drop", "one"), ("team", "one", ONE))):
            roster = filled()
            roster.undo()
            roster.undo()
            roster.apply(*commands)
            self.assertEqual(roster.history(), (2, 0))
            self.fails(NothingLeft, roster.redo)
        roster = filled()
        roster.undo()
        self.stays(roster, UnknownName, ("drop", "ring"))
        self.assertEqual(roster.history(), (2, 1))
        roster.redo()
        self.assertEqual(roster.names(), ["one", "two", "ring"])

    def test_order_comes_back(self):
        roster = filled()
        roster.apply(("drop", "two"))
        roster.apply(("team", "two", TWO))
        self.assertEqual(roster.names(), ["one", "ring", "two"])
        roster.undo()
        roster.undo()
        self.assertEqual(roster.names(), ["one", "two", "ring"])

    def test_many_steps(self):
        roster = Roster(limit=12)
        found = [roster.names()]
        for at in range(500):
            name = "abcdefghijkl"[at % 12]
            roster.apply(("drop", name) if name in roster else ("team", name, ONE))
            found.append(roster.names())
        self.assertEqual(roster.history(), (500, 0))
        for at in range(499, -1, -1):
            roster.undo()
            self.assertEqual(roster.names(), found[at])
        for at in range(1, 501):
            roster.redo()
            self.assertEqual(roster.names(), found[at])
        self.assertEqual(roster.history(), (500, 0))

    def test_forget(self):
        roster = filled()
        roster.ticks("one")
        roster.undo()
        self.assertIsNone(roster.forget())
        self.assertEqual((roster.history(), roster.names(), roster.kept()), ((0, 0), ["one", "two"], ["one"]))
        self.fails(NothingLeft, roster.undo)
        self.fails(NothingLeft, roster.redo)
        roster.apply(("drop", "one"))
        self.assertEqual(roster.history(), (1, 0))
        roster.undo()
        self.assertEqual(roster.names(), ["one", "two"])
        self.fails(NothingLeft, roster.undo)


class Limits(RosterCase):
    def test_both_ways_to_set_a_limit(self):
        for limit in range(3, 13):
            roster = filled()
            roster.limit = limit
            self.assertEqual((roster.limit, roster.history()), (limit, (3, 0)))
            roster = filled()
            self.assertIsNone(roster.set_limit(value=limit))
            self.assertEqual(roster.limit, limit)

    def test_wrong_limits(self):
        for value in (0, -1, 2, 1, 13, MOST, True, False, None, "5", "", (), [], (5,), [5], DEEP_LIST, DEEP_TUPLE):
            roster = filled()
            before = whole(roster)
            self.gives(InvalidLimit, value, roster.set_limit, value)
            self.gives(InvalidLimit, value, setattr, roster, "limit", value)
            self.assertEqual(whole(roster), before)
        roster = Roster()
        self.gives(InvalidLimit, 0, roster.set_limit, 0)
        roster.limit = 1
        self.assertEqual(roster.limit, 1)

    def test_limits_are_no_steps(self):
        roster = filled()
        roster.set_limit(5)
        roster.undo()
        self.assertEqual((roster.limit, roster.history()), (5, (2, 1)))

    def test_undo_and_redo_do_not_look_at_the_limit(self):
        roster = filled()
        roster.apply(("drop", "one"), ("drop", "two"))
        roster.limit = 1
        roster.undo()
        self.assertEqual((roster.names(), roster.limit, len(roster)), (["one", "two", "ring"], 1, 3))
        self.refuses(roster, CapacityExceeded, 1, ("team", "four", ONE))
        self.refuses(roster, CapacityExceeded, 1, ("copy", "one", "four"))
        self.gives(InvalidLimit, 2, roster.set_limit, 2)
        self.gives(InvalidLimit, 1, roster.set_limit, 1)
        roster.apply(("add", "one", ONE), ("rename", "two", "six"))
        self.refuses(roster, CapacityExceeded, 1, ("drop", "one"), ("drop", "six"), ("team", "four", ONE))
        self.assertEqual(len(roster.twin()), 3)
        roster.set_limit(3)
        self.assertEqual(roster.limit, 3)
        roster = filled()
        roster.undo()
        roster.undo()
        roster.limit = 1
        roster.redo()
        roster.redo()
        self.assertEqual((len(roster), roster.limit), (3, 1))

    def test_the_limit_counts(self):
        roster = Roster(limit=1)
        roster.apply(("team", "a", ONE))
        self.refuses(roster, CapacityExceeded, 1, ("team", "b", ONE))
        roster.limit = 12
        for name in "bcdefghijkl":
            roster.apply(("copy", "a", name))
        self.assertEqual(len(roster), 12)
        self.refuses(roster, CapacityExceeded, 12, ("team", "m", ONE))
        self.gives(InvalidLimit, 11, roster.set_limit, 11)


class Tables(RosterCase):
    def test_a_table_is_kept(self):
        roster = filled()
        table = roster.ticks("two")
        self.assertEqual(table, Ticks(COUNTS))
        self.assertEqual((roster.kept(), roster.computed), (["two"], 1))
        self.assertEqual(roster.ticks(name="two"), table)
        self.assertEqual((roster.kept(), roster.computed, roster.history()), (["two"], 1, (3, 0)))
        roster.ticks("ring")
        roster.ticks("one")
        self.assertEqual((roster.kept(), roster.computed), (["one", "ring", "two"], 3))
        for name in [*NO_NAMES, "three"]:
            before = whole(roster)
            self.assertEqual(self.fails(UnknownName, roster.ticks, name).name, name)
            self.assertEqual(self.fails(UnknownName, roster.team_named, name).name, name)
            self.assertEqual(whole(roster), before)

    def kept_behind(self, *steps):
        """The names with kept tables behind steps, where all were kept before."""
        roster = filled()
        for name in roster.names():
            roster.ticks(name)
        for commands in steps:
            roster.apply(*commands)
        self.assertEqual(roster.computed, 3)
        return roster.kept()

    def test_kept_behind_steps(self):
        every = ["one", "ring", "two"]
        self.assertEqual(self.kept_behind(()), every)
        self.assertEqual(self.kept_behind([("team", "four", ONE)]), every)
        self.assertEqual(self.kept_behind([("add", "two", ONE)]), ["one", "ring"])
        self.assertEqual(self.kept_behind([("drop", "two")]), ["one", "ring"])
        self.assertEqual(self.kept_behind([("rename", "two", "six")]), ["one", "ring"])
        self.assertEqual(self.kept_behind([("spare", "two", 0, 0)]), every)
        self.assertEqual(self.kept_behind([("spare", "two", 1, 0)]), ["one", "ring"])
        self.assertEqual(self.kept_behind([("copy", "two", "six")]), every)

    def test_steps_that_go_there_and_back(self):
        every = ["one", "ring", "two"]
        self.assertEqual(self.kept_behind([("add", "two", ONE), ("remove", "two", 2)]), every)
        self.assertEqual(self.kept_behind([("add", "two", ONE)], [("remove", "two", 2)]), ["one", "ring"])
        self.assertEqual(self.kept_behind([("drop", "two"), ("team", "two", TWO)]), every)
        self.assertEqual(self.kept_behind([("drop", "two")], [("team", "two", TWO)]), ["one", "ring"])
        self.assertEqual(self.kept_behind([("rename", "two", "six"), ("rename", "six", "two")]), every)
        self.assertEqual(self.kept_behind([("rename", "two", "six")], [("rename", "six", "two")]), ["one", "ring"])
        self.assertEqual(self.kept_behind([("drop", "two"), ("team", "two", ONE)]), ["one", "ring"])

    def test_names_exchanged_within_one_step(self):
        swap = [("rename", "one", "x"), ("rename", "two", "one"), ("rename", "x", "two")]
        self.assertEqual(self.kept_behind(swap), ["ring"])
        self.assertEqual(self.kept_behind([*swap, *swap]), ["one", "ring", "two"])
        # The names of two equal teams may be exchanged.
        roster = filled()
        roster.apply(("copy", "two", "same"))
        roster.ticks("two")
        roster.apply(("rename", "two", "x"), ("rename", "same", "two"), ("rename", "x", "same"))
        self.assertEqual((roster.kept(), roster.computed), (["two"], 1))
        roster.ticks("same")
        roster.apply(("drop", "two"), ("rename", "same", "two"))
        self.assertEqual((roster.kept(), roster.computed, roster.names()), (["two"], 2, ["one", "two", "ring"]))

    def test_equal_teams_under_other_names(self):
        roster = filled()
        roster.apply(("copy", "two", "same"))
        roster.ticks("two")
        self.assertEqual(roster.kept(), ["two"])
        roster.ticks("same")
        self.assertEqual((roster.kept(), roster.computed), (["same", "two"], 2))

    def test_kept_behind_undo_and_redo(self):
        roster = filled()
        roster.apply(("add", "two", ONE))
        roster.ticks("two")
        roster.ticks("one")
        roster.undo()
        self.assertEqual(roster.kept(), ["one"])
        roster.redo()
        self.assertEqual((roster.kept(), roster.computed), (["one"], 2))
        roster.ticks("two")
        self.assertEqual((roster.kept(), roster.computed), (["one", "two"], 3))
        roster.apply(("rename", "one", "six"))
        roster.undo()
        self.assertEqual(roster.kept(), ["two"])
        roster.apply()
        roster.undo()
        self.assertEqual(roster.kept(), ["two"])
        # Undone, the step leads to no name, made again it leads to an equal team.
        roster = filled()
        roster.ticks("ring")
        roster.undo()
        self.assertEqual(roster.kept(), [])
        roster.redo()
        self.assertEqual((roster.kept(), roster.computed), ([], 1))

    def test_kept_behind_errors_and_limits(self):
        roster = filled()
        roster.ticks("two")
        self.stays(roster, UnknownName, ("drop", "two"), ("drop", "two"))
        roster.set_limit(4)
        roster.forget()
        self.assertEqual((roster.kept(), roster.computed), (["two"], 1))

    def test_returned_lists_are_new(self):
        roster = filled()
        roster.ticks("two")
        roster.kept().clear()
        roster.names().append("x")
        roster.team_named("two").machines().clear()
        self.assertEqual((roster.kept(), roster.names(), roster.team_named("two")), (["two"], ["one", "two", "ring"], COUNTS))


class Twins(RosterCase):
    def test_a_twin_is_in_the_same_state(self):
        roster = filled(limit=4)
        roster.apply(("drop", "one"))
        roster.ticks("two")
        roster.undo()
        roster.undo()
        fresh = roster.twin()
        self.assertEqual(whole(fresh), whole(roster))
        self.assertTrue(fresh == roster)

    def test_twins_led_elsewhere(self):
        roster = filled()
        roster.ticks("two")
        roster.apply(("drop", "one"))
        roster.undo()
        before = whole(roster)
        one = roster.twin()
        other = one.twin()
        one.apply(("drop", "two"), ("team", "new", ONE))
        one.ticks("new")
        one.limit = 12
        self.assertEqual(whole(roster), before)
        self.assertEqual(whole(other), before)
        other.redo()
        other.forget()
        other.ticks("ring")
        self.assertEqual(whole(roster), before)
        self.assertEqual((one.names(), one.kept(), one.computed, one.limit, one.history()),
                         (["one", "ring", "new"], ["new"], 2, 12, (4, 0)))
        self.assertEqual((other.names(), other.kept(), other.computed, other.limit, other.history()),
                         (["two", "ring"], ["ring", "two"], 2, 10, (0, 0)))
        roster.undo()
        roster.undo()
        roster.apply(("rename", "one", "uno"))
        self.assertEqual((one.names(), other.names()), (["one", "ring", "new"], ["two", "ring"]))
        one.undo()
        self.assertEqual((one.names(), roster.names()), (["one", "two", "ring"], ["uno"]))

    def test_a_twin_beyond_its_limit(self):
        roster = filled()
        roster.apply(("drop", "one"), ("drop", "two"))
        roster.limit = 1
        roster.undo()
        fresh = roster.twin()
        self.assertEqual((len(fresh), fresh.limit, whole(fresh)), (3, 1, whole(roster)))


class Comparing(RosterCase):
    def test_equality(self):
        self.assertTrue(filled() == filled())
        self.assertFalse(filled() != filled())
        self.assertTrue(Roster() == Roster(limit=3))
        other = Roster(limit=12)
        other.apply(("team", "one", ONE), ("team", "x", TWO), ("team", "ring", WIDE), ("rename", "x", "two"))
        other.ticks("two")
        self.assertEqual(other.names(), ["one", "two", "ring"])
        self.assertTrue(filled() == other)
        other.undo()
        self.assertFalse(filled() == other)
        other.redo()
        other.apply(("add", "one", ONE))
        self.assertFalse(filled() == other)
        other.apply(("remove", "one", 1))
        self.assertTrue(filled() == other)

    def test_other_orders_names_and_teams(self):
        one, other = Roster(), Roster()
        one.apply(("team", "a", ONE), ("team", "b", ONE))
        other.apply(("team", "b", ONE), ("team", "a", ONE))
        self.assertFalse(one == other)
        self.assertTrue(one != other)
        other.apply(("drop", "b"))
        self.assertFalse(one == other)
        other.apply(("team", "b", TWO))
        self.assertFalse(one == other)
        other.apply(("remove", "b", 1))
        self.assertTrue(one == other)

    def test_other_values(self):
        for value in (None, 0, 1, True, "", "Roster(3 teams)", (), [], ["one", "two", "ring"], {}, COUNTS, Ticks(COUNTS)):
            self.assertFalse(filled() == value)
            self.assertTrue(filled() != value)
        for value in (None, 0, False, "", [], {}):
            self.assertFalse(Roster() == value)

    def test_contains(self):
        roster = filled()
        self.assertEqual([name in roster for name in ("one", "two", "ring", "three", "on")], [True, True, True, False, False])
        for value in [*NO_NAMES, COUNTS, roster, {}, "one two", ("one",), ["one"]]:
            self.assertIs(value in roster, False)
            self.assertIs(value not in roster, True)
        self.assertIs("one" in roster, True)
        roster.undo()
        self.assertFalse("ring" in roster)


class Model:
    """A roster by the words of the document: all teams, all steps, and for which team each table was computed."""

    def __init__(self, limit):
        self.limit, self.teams, self.done, self.undone, self.tables, self.computed = limit, [], [], [], {}, 0

    def at(self, teams, name):
        return next((at for at, row in enumerate(teams) if row[0] == name), None)

    def error(self, teams, command):
        """The name of the error of a command, or None; the teams are changed if there is none."""
        word, name, *rest = command
        at = self.at(teams, name)
        if word == "team":
            return self.put(teams, name, rest[0])
        if at is None:
            return "UnknownName"
        team = teams[at][1]
        if word == "copy":
            return self.put(teams, rest[0], team_text(team))
        if word == "add":
            if len(team) == 6:
                return "TooMany"
            teams[at] = (name, Team([*team.machines(), *read(rest[0]).machines()]))
        if word == "spare":
            try:
                teams[at] = (name, with_spares(team, least_spares(team, silent=rest[0], wrong=rest[1])))
            except TeamError as caught:
                return caught.tag
        if word == "remove":
            if len(team) == 1 or rest[0] not in range(len(team)):
                return "InvalidIndex"
            teams[at] = (name, Team([one for index, one in enumerate(team.machines()) if index != rest[0]]))
        if word == "rename":
            if self.at(teams, rest[0]) is not None:
                return "DuplicateName"
            teams[at] = (rest[0], team)
        if word == "drop":
            del teams[at]
        return None

    def put(self, teams, name, text):
        if self.at(teams, name) is not None:
            return "DuplicateName"
        if len(teams) >= self.limit:
            return "CapacityExceeded"
        teams.append((name, read(text)))
        return None

    def apply(self, commands):
        teams = list(self.teams)
        for command in commands:
            error = self.error(teams, command)
            if error is not None:
                return error
        self.done.append(self.teams)
        self.undone = []
        self.go_to(teams)
        return None

    def go_to(self, teams):
        self.teams = teams
        self.tables = {name: team for name, team in self.tables.items() if (name, team) in teams}

    def undo(self):
        if not self.done:
            return "NothingLeft"
        self.undone.append(self.teams)
        self.go_to(self.done.pop())
        return None

    def redo(self):
        if not self.undone:
            return "NothingLeft"
        self.done.append(self.teams)
        self.go_to(self.undone.pop())
        return None

    def ticks(self, name):
        at = self.at(self.teams, name)
        if at is None:
            return "UnknownName"
        if name not in self.tables:
            self.tables[name] = self.teams[at][1]
            self.computed += 1
        return None


MACHINES = {machine_text(machine): machine for machine in (A2, B2, A3, R2, STAY)}


def read(text):
    """The team with a text, where its machines are known."""
    return Team([MACHINES[part] if part in MACHINES else own_machine(part) for part in text.split(" / ")])


def own_machine(text):
    alphabet, *words = text.split(" ")
    return Machine(alphabet, [[int(goal) for goal in word.split(",")] for word in words])


def error_of(call, *rest):
    """The name of the error of a call, or None."""
    try:
        call(*rest)
    except (TeamError, UnknownName, NothingLeft) as caught:
        return caught.tag
    return None


class Together(RosterCase):
    def chosen(self, chance):
        name = chance.choice("abcd")
        text = chance.choice([ONE, TWO, machine_text(R2)])
        return chance.choice([("team", name, text), ("copy", name, chance.choice("abcd")), ("add", name, ONE),
                              ("add", name, machine_text(STAY)), ("remove", name, chance.choice([0, 1, 5])),
                              ("rename", name, chance.choice("abcd")), ("drop", name), ("spare", name, 1, 0)])

    def test_against_the_words_of_the_document(self):
        for seed in range(60):
            chance = random.Random(seed)
            limit = chance.choice([2, 3, 10])
            roster, model = Roster(limit=limit), Model(limit)
            for turn in range(60):
                kind = chance.choice(["apply", "apply", "apply", "undo", "redo", "ticks", "ticks"])
                if kind == "apply":
                    commands = [self.chosen(chance) for many in range(chance.choice([0, 1, 1, 1, 2, 3]))]
                    self.assertEqual(error_of(roster.apply, *commands), model.apply(commands), commands)
                elif kind == "ticks":
                    name = chance.choice("abcd")
                    self.assertEqual(error_of(roster.ticks, name), model.ticks(name))
                else:
                    self.assertEqual(error_of(getattr(roster, kind)), getattr(model, kind)())
                self.assertEqual([(name, roster.team_named(name)) for name in roster.names()], model.teams)
                self.assertEqual((roster.history(), roster.kept(), roster.computed, roster.busy),
                                 ((len(model.done), len(model.undone)), sorted(model.tables), model.computed, False))

    def test_all_pairs_of_commands(self):
        chosen = [("team", "one", ONE), ("team", "new", ONE), ("copy", "two", "new"), ("add", "one", ONE), ("remove", "two", 0),
                  ("remove", "one", 0), ("rename", "one", "new"), ("rename", "new", "one"), ("drop", "one"), ("drop", "new"),
                  ("spare", "two", 1, 0), ("spare", "one", 6, 0)]
        for commands in product(chosen, repeat=2):
            roster, model = filled(limit=4), Model(4)
            model.apply([("team", "one", ONE), ("team", "two", TWO), ("team", "ring", WIDE)])
            for name in ("one", "two"):
                roster.ticks(name)
                model.ticks(name)
            before = whole(roster)
            error = model.apply(commands)
            self.assertEqual(error_of(roster.apply, *commands), error)
            if error is not None:
                self.assertEqual(whole(roster), before)
            self.assertEqual([(name, roster.team_named(name)) for name in roster.names()], model.teams)
            self.assertEqual((roster.kept(), roster.computed), (sorted(model.tables), 2))


if __name__ == "__main__":
    unittest.main()
