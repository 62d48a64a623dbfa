"""What holds for the calls of all files: by position and by name, arguments that stay, results that are new."""

import copy
import inspect
import unittest

from helpers import A2, B2, COUNTS, DEEP_LIST, DEEP_TUPLE, FALL, LINE, SMALL_TEAMS, Case

from othersknow import (desk, errors, healing, late, listeners, machines, pages, partitions, reports, roster, spares, teams,
                        texts, ticks, verdicts)

Machine, Team = machines.Machine, teams.Team
LINED = Team([LINE, LINE])
LISTENER = listeners.Listener(COUNTS, late=True)
LISTENER.tick(1)
LISTENER.hear_all(2, (1, None))
TABLE = ticks.Ticks(COUNTS)
LATE = late.Late(COUNTS, [0])
HEALS = healing.healing(LINED, [0, 1])
NEVER = healing.healing(COUNTS, [0])
ODD_HEALS = healing.Heals(LINED, [1], 3, {(0, 1): [1, [2]], "a": ([3], 4), (True, None): 1})
ODD_NEVER = healing.Never(COUNTS, [0], ([0], 1), [["a"]])
ODD_SAFE = verdicts.Safe(COUNTS, 1, 0, [[0, 0], ([1], 2)])
ODD_UNSAFE = verdicts.Unsafe(COUNTS, 1, 0, ["a", ["b"]], [[]], ([1], None))
TEXT = "ab 1,0 0,1 / ab 0,1 1,0"
ROSTER = roster.Roster()
ROSTER.apply(("team", "two", TEXT), ("team", "one", "a 1 0"))
ROSTER.ticks("two")
ROSTER.apply(("drop", "one"))
ROSTER.undo()
DESK = desk.Desk(roster=ROSTER.twin())
DESK.say("names")
DESK.say([["names"], 1])
SAFE = verdicts.verdict(COUNTS)
UNSAFE = verdicts.verdict(COUNTS, silent=1)

# Each call with its arguments by position, as far as they have a position, and those by name.
CALLS = [
    (machines.is_alphabet, ("ab",), {}),
    (machines.alike, (FALL, FALL.standard()), {}),
    (Machine, ("ab", [[1, 0], [0, 1]]), {}),
    (FALL.moves, (), {}),
    (FALL.reachable, (), {}),
    (FALL.behind, ("ab",), {"state": 4}),
    (FALL.far, ([("ab", 3), ("b", 10 ** 30)],), {"state": 1}),
    (FALL.word_to, (3,), {}),
    (FALL.standard, (), {}),
    (Machine.ring, ("ab", 4), {}),
    (Machine.counter, ("ab", 4), {"letter": "b"}),
    (Team, ([A2, B2],), {}),
    (COUNTS.machines, (), {}),
    (COUNTS.joint_states, (), {}),
    (COUNTS.joint, (), {}),
    (COUNTS.behind, ("ab",), {}),
    (COUNTS.number_of, ((1, 0),), {}),
    (COUNTS.word_to, (3,), {}),
    (COUNTS.parting, (0, 3), {}),
    (COUNTS.weakest, (), {}),
    (COUNTS.without, (1,), {}),
    (reports.report_of, (COUNTS, 1), {"silent": [0]}),
    (reports.fitting, (COUNTS, (None, 1)), {"wrong": 0}),
    (reports.is_safe, (COUNTS,), {"silent": 1, "wrong": 0}),
    (reports.need, (COUNTS,), {"silent": 1, "wrong": 2}),
    (reports.bearable, (COUNTS,), {}),
    (partitions.is_partition, (FALL, [0, 1, 2, 3, 3]), {}),
    (partitions.is_image, (FALL, [0, 1, 2, 3, 4]), {}),
    (partitions.finest, (FALL,), {}),
    (partitions.closure, (FALL, [0, 1, 1, 2, 3]), {}),
    (partitions.joined, (FALL, [0, 1, 2, 3, 4], 1, 2), {}),
    (partitions.met, (FALL, [0, 1, 1, 2, 2], [0, 0, 1, 1, 1]), {}),
    (partitions.quotient, (COUNTS.joint(), [0, 1, 1, 0]), {}),
    (partitions.image_count, (FALL,), {"apart": [(0, 1)]}),
    (partitions.is_coarsest, (COUNTS.joint(), [0, 1, 1, 0]), {"apart": [(0, 1)]}),
    (partitions.coarsest, (COUNTS.joint(),), {"apart": [(0, 1)]}),
    (spares.useful, (COUNTS,), {}),
    (spares.least_spares, (COUNTS,), {"silent": 1, "wrong": 0}),
    (spares.are_spares, (COUNTS, [[0, 1, 1, 0]]), {"silent": 1, "wrong": 0}),
    (spares.with_spares, (COUNTS, [[0, 1, 1, 0]]), {}),
    (verdicts.verdict, (COUNTS,), {"silent": 1, "wrong": 0}),
    (verdicts.Verdict, (COUNTS, 1, 0), {}),
    (verdicts.Safe, (COUNTS, 0, 0, [(0, 0), (0, 1), (1, 0), (1, 1)]), {}),
    (verdicts.Unsafe, (COUNTS, 1, 0, "", "a", (None, 0)), {}),
    (SAFE.told, (), {}),
    (SAFE.holds, (), {}),
    (SAFE.listed_states, (), {}),
    (ODD_SAFE.listed_states, (), {}),
    (UNSAFE.holds, (), {}),
    (ticks.Ticks, (COUNTS,), {}),
    (TABLE.behind, (1, 10 ** 30), {}),
    (TABLE.spread, ([0, 1], 1), {}),
    (TABLE.distance_after, (2,), {}),
    (TABLE.is_safe, (2,), {"silent": 1, "wrong": 0}),
    (TABLE.safe_counts, (), {"silent": 2, "wrong": 0}),
    (ticks.relation_holds, (COUNTS, 1, [(0, 1), (0, 2), (1, 0), (1, 3), (2, 0), (2, 3), (3, 1), (3, 2)]), {}),
    (late.Late, (COUNTS, [0]), {}),
    (LATE.group, (), {}),
    (LATE.clear, (1,), {}),
    (LATE.late_pair, (1,), {}),
    (LATE.clear_counts, (), {}),
    (late.late_pair_holds, (COUNTS, [0], 1, (0, 1, 2, 0)), {}),
    (healing.open_pairs, (COUNTS, [0]), {}),
    (healing.healed_by, (LINED, [0, 1], "aaaa"), {}),
    (healing.healing, (LINED, [0, 1]), {}),
    (healing.healing, (COUNTS, [1]), {}),
    (healing.Healing, (COUNTS, [0]), {}),
    (healing.Heals, (Team([LINE]), [0], 1, {(0, 1): [1]}), {}),
    (healing.Never, (COUNTS, [0], (0, 1), "a"), {}),
    (HEALS.group, (), {}),
    (HEALS.numbers, (), {}),
    (HEALS.holds, (), {}),
    (HEALS.told, (), {}),
    (ODD_HEALS.numbers, (), {}),
    (ODD_HEALS.holds, (), {}),
    (NEVER.holds, (), {}),
    (NEVER.told, (), {}),
    (listeners.Listener, (COUNTS,), {"wrong": 1, "late": True}),
    (LISTENER.known, (), {}),
    (LISTENER.state, (), {}),
    (LISTENER.twin, (), {}),
    (texts.machine_text, (FALL,), {}),
    (texts.team_text, (COUNTS,), {}),
    (texts.read_machine, ("ab 1,0 0,1",), {}),
    (texts.read_team, (TEXT,), {}),
    (texts.report_text, ((1, None),), {}),
    (texts.read_report, ("1,-",), {}),
    (roster.Roster, (), {"limit": 12}),
    (ROSTER.history, (), {}),
    (ROSTER.names, (), {}),
    (ROSTER.team_named, ("two",), {}),
    (ROSTER.ticks, ("two",), {}),
    (ROSTER.kept, (), {}),
    (ROSTER.twin, (), {}),
    (pages.write_roster, (ROSTER,), {}),
    (pages.read_roster, ("two " + TEXT + "\none a 1 0\n",), {}),
    (desk.Desk, (), {"roster": ROSTER.twin()}),
    (DESK.roster, (), {}),
    (DESK.log, (), {}),
]
# Calls that change an object, each of a new one.
CHANGES = [
    (lambda: listeners.Listener(COUNTS), "tick", (3,)),
    (lambda: listeners.Listener(COUNTS, late=True), "hear", ((0, None),)),
    (ROSTER.twin, "set_limit", (2,)),
    (lambda: desk.Desk(roster=ROSTER.twin()), "say", ("drop one",)),
    (lambda: desk.Desk(roster=ROSTER.twin()), "__call__", ("after one 3",)),
]
# None of these is a name, a text or a command.
NESTED = [DEEP_LIST, DEEP_TUPLE, [], (), [[]], ((),), [["drop", "one"]], (("drop", "one"),), [("drop", "one")], ["a", ["b"]],
          ("a", ("b", ["c", None])), [True, [False]]]
# What is told by properties that may hold lists.
PROPERTIES = [(ODD_NEVER, "pair"), (ODD_NEVER, "road"), (ODD_UNSAFE, "one"), (ODD_UNSAFE, "other"), (ODD_UNSAFE, "report"),
              (NEVER, "pair"), (UNSAFE, "report")]


def plain(value):
    """A value that can be compared, with what an object tells in the place of an object."""
    if isinstance(value, Machine):
        return ("machine", value.alphabet, value.moves())
    if isinstance(value, Team):
        return ("team", [plain(machine) for machine in value.machines()], value.joint_states())
    if isinstance(value, (list, tuple)):
        return [value.__class__.__name__, *[plain(item) for item in value]]
    if isinstance(value, dict):
        return {key: plain(item) for key, item in value.items()}
    if value is None or isinstance(value, (int, str)):
        return (value.__class__.__name__, value)
    return object_told(value)


def object_told(value):
    """The kind of an object, all its properties, and all that its methods without arguments tell."""
    found = [value.__class__.__name__, repr(value) if "__repr__" in vars(value.__class__) else ""]
    for name in ("begin", "period", "letters", "pair", "road", "silent", "wrong", "one", "other", "report", "sure", "heard",
                 "since", "busy", "team", "limit", "computed"):
        if hasattr(value, name):
            found.append((name, plain(getattr(value, name))))
    for name in ("holds", "told", "listed_states", "group", "numbers", "clear_counts", "known", "state", "names", "history",
                 "kept", "log", "roster"):
        if hasattr(value, name):
            found.append((name, plain(getattr(value, name)())))
    if isinstance(value, roster.Roster):
        found.append([plain(value.team_named(name)) for name in value.names()])
    if hasattr(value, "__len__"):
        found.append(len(value))
    return found


def spoil(value):
    """Changes all lists and dicts in a value."""
    if isinstance(value, (list, tuple)):
        for item in value:
            spoil(item)
    if isinstance(value, dict):
        for item in value.values():
            spoil(item)
        value.clear()
        value["spoiled"] = 1
    if isinstance(value, list):
        value.append("spoiled")
        value.reverse()


def names_of(call, args):
    """The arguments of a call by their names."""
    return dict(inspect.signature(call).bind_partial(*args).arguments)


class Calls(Case):
    def test_by_position_and_by_name(self):
        for call, args, more in CALLS:
            with self.subTest(call=call):
                self.assertEqual(plain(call(*args, **more)), plain(call(**names_of(call, args), **more)))

    def test_changes_by_position_and_by_name(self):
        for make, name, args in CHANGES:
            one, other = make(), make()
            with self.subTest(name):
                answer = getattr(one, name)(*args)
                self.assertEqual(answer, getattr(other, name)(**names_of(getattr(other, name), args)))
                self.assertEqual(plain(one), plain(other))
                self.assertNotEqual(plain(one), plain(make()))

    def test_nested_lists_and_tuples(self):
        for value in NESTED:
            made = ROSTER.twin()
            before = plain(made)
            with self.subTest(value):
                for call in (texts.read_machine, texts.read_team, texts.read_report):
                    self.fails(errors.InvalidText, call, value)
                self.assertEqual(self.fails(errors.ParseError, pages.read_roster, value).line, 0)
                self.assertEqual(self.fails(errors.InvalidLimit, made.set_limit, value).given, value)
                self.assertEqual(self.fails(errors.UnknownName, made.team_named, value).name, value)
                self.assertEqual(self.fails(errors.UnknownName, made.ticks, value).name, value)
                self.assertIs(value in made, False)
                self.assertEqual(self.fails(errors.InvalidName, made.apply, ("team", value, TEXT)).name, value)
                self.fails(errors.InvalidText, made.apply, ("team", "new", value))
                self.fails(errors.InvalidCommand, made.apply, value)
                self.assertEqual(self.fails(errors.InvalidCommand, made.apply, (value, "one")).word, value)
                self.assertEqual(desk.Desk(roster=made).say(value), "invalid")
                self.assertEqual(plain(made), before)

    def test_commands_stay_as_they_are(self):
        inner = ["x"]
        command = ("rename", "one", (inner, 1))
        self.assertEqual(self.fails(errors.InvalidName, ROSTER.twin().apply, command).name, (["x"], 1))
        self.assertEqual(command, ("rename", "one", (["x"], 1)))

    def test_equal_calls_return_equal_results(self):
        for call, args, more in CALLS:
            with self.subTest(call=call):
                self.assertEqual(plain(call(*args, **more)), plain(call(*args, **more)))

    def test_tuples_stand_for_lists(self):
        for call, args, more in CALLS:
            if call in (verdicts.Unsafe, verdicts.Safe, healing.Heals, healing.Never):
                continue
            fresh = [tuple(value) if isinstance(value, list) else value for value in args]
            named = {name: tuple(value) if isinstance(value, list) else value for name, value in more.items()}
            with self.subTest(call=call):
                self.assertEqual(plain(call(*fresh, **named)), plain(call(*args, **more)))

    def test_arguments_stay_as_they_are(self):
        for call, args, more in CALLS:
            # Teams and machines are shared, and compared by what they tell.
            before = (plain(args), plain(more))
            spoil(call(*args, **more))
            with self.subTest(call=call):
                self.assertEqual((plain(args), plain(more)), before)

    def test_results_are_new(self):
        for call, args, more in CALLS:
            first = call(*args, **more)
            before = plain(first)
            spoil(first)
            with self.subTest(call=call):
                self.assertEqual(plain(call(*args, **more)), before)

    def test_what_properties_tell_is_new(self):
        for made, name in PROPERTIES:
            before = plain(getattr(made, name))
            spoil(getattr(made, name))
            with self.subTest(made=made, name=name):
                self.assertEqual(plain(getattr(made, name)), before)

    def test_objects_copy_what_they_are_given(self):
        for call, args, more in CALLS:
            if isinstance(call, type):
                fresh = [copy.deepcopy(value) if isinstance(value, (list, dict)) else value for value in args]
                made = call(*fresh, **more)
                before = plain(made)
                for value in fresh:
                    spoil(value)
                with self.subTest(call=call):
                    self.assertEqual(plain(made), before)

    def test_lists_of_a_generator_are_new(self):
        for team in SMALL_TEAMS:
            wanted = list(partitions.images(team.joint()))
            for again in range(2):
                found = []
                for blocks in partitions.images(machine=team.joint(), apart=()):
                    found.append(list(blocks))
                    spoil(blocks)
                self.assertEqual(found, wanted)

    def test_errors_by_position_and_by_name(self):
        for call, args, more in ((TABLE.behind, (9, -1), {}), (TABLE.spread, ([9], -1), {}), (LATE.clear, (-1,), {}),
                                 (TABLE.is_safe, (0,), {"silent": None}), (late.Late, (COUNTS, [2]), {}),
                                 (late.late_pair_holds, (COUNTS, [0], True, None), {}), (healing.healing, (COUNTS, [2]), {}),
                                 (healing.healed_by, (COUNTS, [0], "c"), {}), (ticks.relation_holds, (COUNTS, 401, []), {}),
                                 (LISTENER.tick, (-1,), {}), (LISTENER.hear, ((),), {}),
                                 (listeners.Listener, (COUNTS,), {"wrong": -1}), (texts.read_team, ("",), {}),
                                 (texts.read_machine, ("",), {}), (texts.read_report, ("",), {}),
                                 (pages.read_roster, ("a",), {}), (roster.Roster, (), {"limit": 0}),
                                 (ROSTER.set_limit, (1,), {})):
            told = []
            for shape in ((args, more), ((), {**names_of(call, args), **more})):
                with self.assertRaises(errors.TeamError) as caught:
                    call(*shape[0], **shape[1])
                told.append((caught.exception.__class__, vars(caught.exception)))
            self.assertEqual(told[0], told[1])


if __name__ == "__main__":
    unittest.main()
