import unittest
from itertools import product

from helpers import A2, A3, B2, COUNTS, FALL, ODD_VALUES, R2, SMALL_TEAMS, STAY, Case, all_reports, words, wrong_ones

from othersknow.errors import InvalidCount
from othersknow.machines import Machine
from othersknow.reports import is_safe
from othersknow.teams import Team
from othersknow.verdicts import Safe, Unsafe, Verdict, verdict

MOST = 10 ** 30
WRONG_COUNTS = [-1, MOST + 1, -MOST, True, False, None, "0", (0,), [0]]
THREE = Team([A2, B2, R2])
STATES = [(0, 0, 0), (0, 1, 1), (1, 0, 1), (1, 1, 0)]
# Each machine has a state that no word leads to.
SPARE_STATES = Team([Machine("a", [[1], [0], [2]]), Machine("a", [[1], [0], [2]])])


def unsafe_holds(team, silent, wrong, one, other, report):
    """Whether two words and a report are right, by the words of the document."""
    ends = [team.behind(one), team.behind(other)]
    return (ends[0] != ends[1] and report.count(None) <= silent
            and all(wrong_ones(states, report) <= wrong for states in ends))


def safe_holds(team, silent, wrong, listed):
    """Whether a list of tuples of states is right, by the words of the document."""
    goals = {tuple(machine.behind(letter, state=state) for machine, state in zip(team.machines(), states))
             for states in listed for letter in team.alphabet}
    apart = [sum(1 for at in range(len(team)) if one[at] != other[at]) for one in listed for other in listed if one != other]
    return (0,) * len(team) in listed and goals <= set(listed) and min(apart, default=MOST) >= silent + 2 * wrong + 1


class Base(Case):
    def test_properties(self):
        for made in (Verdict(COUNTS, 2, 3), Safe(COUNTS, 2, 3, []), Unsafe(COUNTS, 2, 3, "a", "b", (0, 0))):
            self.assertEqual((made.team, made.silent, made.wrong), (COUNTS, 2, 3))
            self.assertIs(made.team, COUNTS)
            for name in ("team", "silent", "wrong"):
                with self.assertRaises(AttributeError):
                    setattr(made, name, 1)
        made = Unsafe(COUNTS, 2, 3, "a", "bb", (0, None))
        self.assertEqual((made.one, made.other, made.report), ("a", "bb", (0, None)))
        for name in ("one", "other", "report"):
            with self.assertRaises(AttributeError):
                setattr(made, name, 1)

    def test_told(self):
        self.assertEqual(Verdict(COUNTS, 1, 0).told(), "1 silent, 0 wrong")
        self.assertEqual(Safe(COUNTS, 0, MOST, []).told(), f"0 silent, {MOST} wrong")
        self.assertEqual(Unsafe(COUNTS, 10 ** 31, 2, "", "", ()).told(), f"{10 ** 31} silent, 2 wrong")

    def test_repr(self):
        self.assertEqual(repr(Verdict(COUNTS, 1, 0)), "Verdict(1 silent, 0 wrong: unknown)")
        self.assertEqual(repr(Safe(COUNTS, 1, 0, [])), "Verdict(1 silent, 0 wrong: safe)")
        self.assertEqual(repr(Unsafe(COUNTS, 2, 11, None, None, None)), "Verdict(2 silent, 11 wrong: unsafe)")

    def test_the_base_class_holds_nothing(self):
        for team in SMALL_TEAMS:
            self.assertIs(Verdict(team, 0, 0).holds(), False)
            self.assertIs(bool(Verdict(team, 0, 0)), False)
        self.assertIs(Verdict(team=COUNTS, silent=0, wrong=0).holds(), False)

    def test_subclasses(self):
        self.assertTrue(issubclass(Safe, Verdict) and issubclass(Unsafe, Verdict))
        self.assertFalse(issubclass(Safe, Unsafe) or issubclass(Unsafe, Safe))


class Telling(Case):
    def test_small_teams(self):
        for team in SMALL_TEAMS:
            for silent in range(len(team) + 2):
                for wrong in range(len(team) + 2):
                    with self.subTest(team, silent=silent, wrong=wrong):
                        made = verdict(team, silent=silent, wrong=wrong)
                        self.assertIs(made.__class__, Safe if is_safe(team, silent=silent, wrong=wrong) else Unsafe)
                        self.assertEqual((made.team, made.silent, made.wrong), (team, silent, wrong))
                        self.assertIs(made.holds(), True)
                        self.assertIs(bool(made), True)
                        self.look_at(made, team, silent, wrong)

    def look_at(self, made, team, silent, wrong):
        if isinstance(made, Safe):
            self.assertEqual(made.listed_states(), sorted(team.joint_states()))
            self.assertTrue(safe_holds(team, silent, wrong, made.listed_states()))
        else:
            self.assertTrue(unsafe_holds(team, silent, wrong, made.one, made.other, made.report))
            self.assertIsInstance(made.report, tuple)

    def test_all_unsafe_numbers_of_copies(self):
        for many in range(1, 7):
            team = Team([A3] * many)
            for silent in range(9):
                for wrong in range(6):
                    made = verdict(team, silent=silent, wrong=wrong)
                    self.assertTrue(made.holds())
                    self.look_at(made, team, silent, wrong)

    def test_large_counts(self):
        made = verdict(COUNTS, silent=MOST, wrong=MOST)
        self.assertIsInstance(made, Unsafe)
        self.assertTrue(made.holds())
        self.assertEqual(made.told(), f"{MOST} silent, {MOST} wrong")
        self.assertTrue(verdict(COUNTS, wrong=MOST).holds() and verdict(COUNTS, silent=MOST).holds())
        made = verdict(Team([STAY]), silent=MOST, wrong=MOST)
        self.assertIsInstance(made, Safe)
        self.assertTrue(made.holds())

    def test_written_out(self):
        self.assertEqual(verdict(COUNTS).listed_states(), [(0, 0), (0, 1), (1, 0), (1, 1)])
        self.assertEqual(verdict(team=THREE, silent=1, wrong=0).listed_states(), STATES)
        made = verdict(COUNTS, silent=1)
        self.assertEqual([made.told(), made.holds(), isinstance(made, Unsafe)], ["1 silent, 0 wrong", True, True])

    def test_wrong_counts(self):
        for value in WRONG_COUNTS:
            with self.subTest(value):
                for team in (COUNTS, Team([STAY])):
                    self.gives(InvalidCount, value, verdict, team, silent=value)
                    self.gives(InvalidCount, value, verdict, team, wrong=value)
                    self.gives(InvalidCount, value, verdict, team, silent=value, wrong=-9)
                    self.gives(InvalidCount, value, verdict, team, silent=MOST, wrong=value)

    def test_counts_are_passed_by_name(self):
        with self.assertRaises(TypeError):
            verdict(COUNTS, 1)


class SafeVerdicts(Case):
    def test_all_lists_of_tuples_of_states(self):
        for team in (COUNTS, Team([Machine("a", [[1], [0]]), Machine("a", [[0], [0]])]), Team([A2, A2])):
            tuples = list(product(range(2), repeat=2))
            for many in range(6):
                for listed in product(tuples, repeat=many):
                    for silent, wrong in ((0, 0), (1, 0), (0, 1)):
                        right = safe_holds(team, silent, wrong, listed)
                        self.assertIs(Safe(team, silent, wrong, list(listed)).holds(), right)
                        self.assertIs(bool(Safe(team, silent, wrong, listed)), right)

    def test_states_that_no_word_leads_to(self):
        self.assertEqual(SPARE_STATES.joint_states(), [(0, 0), (1, 1)])
        for listed in ([(0, 0), (1, 1), (2, 2)], [(2, 2), (1, 1), (0, 0)], ((0, 0), (1, 1), (2, 2)),
                       [(0, 0), (1, 1)], [(0, 0), (1, 1), (0, 0)]):
            self.assertIs(Safe(SPARE_STATES, 1, 0, listed).holds(), True)
            self.assertIs(Safe(SPARE_STATES, 2, 0, listed).holds(), False)
        apart = [(0, 0), (1, 1), (0, 1), (1, 0)]
        self.assertIs(Safe(SPARE_STATES, 0, 0, apart).holds(), True)
        self.assertIs(Safe(SPARE_STATES, 1, 0, apart).holds(), False)
        self.assertIs(Safe(SPARE_STATES, 0, 0, [(0, 0), (1, 1), (2, 0)]).holds(), False)
        self.assertIs(Safe(SPARE_STATES, 0, 0, [(0, 0), (1, 1), (2, 0), (2, 1)]).holds(), True)

    def test_bent_lists(self):
        self.assertTrue(Safe(THREE, 1, 0, STATES).holds())
        for at in range(4):
            self.assertFalse(Safe(THREE, 1, 0, STATES[:at] + STATES[at + 1:]).holds())
            for fresh in ((0, 0), (0, 0, 0, 0), (0, 0, 2), (0, -1, 0), (True, 0, 1), (0, False, 0), (None, 0, 0), ("0", 0, 0),
                          [0, 0, 0], list(STATES[at]), None, 0, "000", True, (STATES[at],), ((0,), 0, 0), ([0], 0, 0), (), []):
                self.assertFalse(Safe(THREE, 1, 0, STATES[:at] + [fresh] + STATES[at + 1:]).holds(), fresh)
                self.assertFalse(Safe(THREE, 1, 0, STATES[:at] + [fresh] + STATES[at:]).holds(), fresh)
                self.assertFalse(Safe(THREE, 1, 0, tuple(STATES[:at] + [fresh] + STATES[at:])).holds(), fresh)
        for states in product(range(2), repeat=3):
            right = states in STATES
            self.assertIs(Safe(THREE, 1, 0, [*STATES, states]).holds(), right)
            # A list of all tuples is led nowhere else, but they stand too near to each other.
            self.assertIs(Safe(THREE, 0, 0, [*STATES, states]).holds(), right)
        every = list(product(range(2), repeat=3))
        self.assertTrue(Safe(THREE, 0, 0, every).holds())
        self.assertFalse(Safe(THREE, 1, 0, every).holds() or Safe(THREE, 0, 1, every).holds())

    def test_a_list_without_the_beginning(self):
        team = Team([Machine("a", [[1], [1], [2]])])
        self.assertTrue(Safe(team, 0, 0, [(0,), (1,)]).holds())
        self.assertTrue(Safe(team, 0, 0, [(0,), (1,), (2,)]).holds())
        self.assertFalse(Safe(team, 0, 0, [(1,)]).holds() or Safe(team, 0, 0, [(2,)]).holds())
        self.assertFalse(Safe(team, 0, 0, [(1,), (2,)]).holds() or Safe(team, 0, 0, []).holds())

    def test_numbers_beyond_what_the_list_bears(self):
        for silent, wrong, right in ((0, 0, True), (1, 0, True), (2, 0, False), (0, 1, False), (1, 1, False), (MOST, MOST, False)):
            self.assertIs(Safe(THREE, silent, wrong, STATES).holds(), right)
        self.assertTrue(Safe(Team([STAY] * 2), 10 ** 31, 10 ** 31, [(0, 0)]).holds())

    def test_papers_of_other_kinds(self):
        for value in ODD_VALUES:
            with self.subTest(value):
                made = Safe(COUNTS, 0, 0, value)
                self.assertIs(made.holds(), False)
                self.assertIs(bool(made), False)
                told = made.listed_states()
                self.assertEqual(told, list(value) if isinstance(value, tuple) else value)
                self.assertIs(told.__class__, list if isinstance(value, tuple) else value.__class__)

    def test_long_lists(self):
        self.assertTrue(Safe(COUNTS, 0, 0, sorted(COUNTS.joint_states()) * 100).holds())
        team = Team([Machine("a", [[at] for at in range(20)])] * 2)
        self.assertTrue(Safe(team, 0, 0, list(product(range(20), repeat=2))).holds())
        self.assertTrue(Safe(team, 1, 0, [(at, at) for at in range(20)] * 20).holds())

    def test_lists_changed_behind_the_call_and_the_telling(self):
        inner = [0, 0]
        listed = [(0, 0), (0, 1), (1, 0), (1, 1)]
        made = Safe(COUNTS, 0, 0, listed)
        listed.append((9, 9))
        listed[0] = None
        self.assertTrue(made.holds())
        made.listed_states().append((9, 9))
        self.assertEqual(made.listed_states(), [(0, 0), (0, 1), (1, 0), (1, 1)])
        made = Safe(COUNTS, 0, 0, (inner, ([1], 2)))
        inner.append(5)
        self.assertEqual(made.listed_states(), [[0, 0], ([1], 2)])
        told = made.listed_states()
        told[0].append(6)
        told[1][0].append(7)
        self.assertEqual(made.listed_states(), [[0, 0], ([1], 2)])
        told = verdict(COUNTS)
        told.listed_states().append(3)
        self.assertTrue(told.holds())
        self.assertEqual(len(told.listed_states()), 4)

    def test_by_name(self):
        self.assertTrue(Safe(team=COUNTS, silent=0, wrong=0, states=sorted(COUNTS.joint_states())).holds())


class UnsafeVerdicts(Case):
    def test_all_reports_and_words(self):
        for team in (COUNTS, Team([A2, A2]), Team([R2, A3]), Team([FALL, A2])):
            for one, other in product(words(team.alphabet, 2), repeat=2):
                for report in all_reports(team):
                    for silent, wrong in ((0, 0), (1, 0), (0, 1), (1, 1), (2, 0), (0, 2)):
                        right = unsafe_holds(team, silent, wrong, one, other, report)
                        made = Unsafe(team, silent, wrong, one, other, report)
                        self.assertIs(made.holds(), right)
                        self.assertIs(bool(made), right)

    def test_written_out(self):
        self.assertTrue(Unsafe(COUNTS, 1, 0, "", "a", (None, 0)).holds())
        self.assertTrue(Unsafe(team=COUNTS, silent=1, wrong=0, one="aab", other="b" * 1999 + "a", report=(None, 1)).holds())
        self.assertTrue(Unsafe(COUNTS, 0, 1, "", "ab", (0, 1)).holds())
        self.assertTrue(Unsafe(COUNTS, 10 ** 31, 10 ** 31, "", "b", (None, None)).holds())

    def test_bent_papers(self):
        right = ["a", "", (None, 0)]
        self.assertTrue(Unsafe(COUNTS, 1, 0, *right).holds())
        for at, values in ((0, ["", "aa", "b", "c", "A", "ac", " ", None, 0, True, ("a",), ["a"], (), []]),
                           (1, ["a", "aaa", "b", "d", "-", None, 0, False, ("",), [""], (), []]),
                           (2, [(None, 1), (1, 0), (0, 0), (None, None), (0, None), (None,), (None, 0, 0), (), (None, False),
                                (None, "0"), (None, (0,)), (None, [0]), (None, 2), (None, -1), [None, 0], ["", 0], None, 0,
                                True, "-0", "", ((None, 0),), [(None, 0)], (False, 0), (None, 10 ** 31)])):
            for value in values:
                with self.subTest(value, at=at):
                    self.assertIs(Unsafe(COUNTS, 1, 0, *right[:at], value, *right[at + 1:]).holds(), False)

    def test_papers_of_other_kinds(self):
        for value in ODD_VALUES:
            if not isinstance(value, str):
                with self.subTest(value):
                    self.assertIs(Unsafe(COUNTS, 1, 0, value, "", (None, 0)).holds(), False)
                    self.assertIs(Unsafe(COUNTS, 1, 0, "a", value, (None, 0)).holds(), False)
            self.assertIs(Unsafe(COUNTS, 1, 0, "a", "", value).holds(), False)
            self.assertIs(Unsafe(COUNTS, 1, 0, value, value, value).holds(), False)
            made = Unsafe(COUNTS, 1, 0, value, value, value)
            for told in (made.one, made.other, made.report):
                self.assertEqual((told, told.__class__), (value, value.__class__))

    def test_words_that_lead_to_one_joint_state(self):
        self.assertFalse(Unsafe(COUNTS, 2, 2, "ab", "ba", (None, None)).holds())
        self.assertFalse(Unsafe(Team([STAY]), 9, 9, "a", "b", (None,)).holds())

    def test_lists_changed_behind_the_call_and_the_telling(self):
        one, other, report = ["a"], [["b"]], ([0], 1)
        made = Unsafe(COUNTS, 0, 0, one, other, report)
        one.append(1)
        other[0].append(2)
        report[0].append(3)
        for turn in range(2):
            self.assertEqual((made.one, made.other, made.report), (["a"], [["b"]], ([0], 1)))
            made.one.append(1)
            made.other[0].append(2)
            made.report[0].append(3)


if __name__ == "__main__":
    unittest.main()
