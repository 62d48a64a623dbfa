import unittest
from itertools import combinations

from helpers import A2, A3, B2, COUNTS, R2, SMALL_TEAMS, STAY, Case, all_reports, wrong_ones

from othersknow.errors import InvalidCount, InvalidGroup, InvalidReport, InvalidState
from othersknow.machines import Machine
from othersknow.reports import bearable, fitting, is_safe, need, report_of
from othersknow.teams import Team

MOST = 10 ** 30
WRONG_COUNTS = [-1, MOST + 1, 10 ** 31, -MOST, True, False, None, "0", "", (0,), [0], ()]


def groups(size):
    """All groups of so many machines."""
    return [list(group) for many in range(size + 1) for group in combinations(range(size), many)]


def confuses(team, silent, wrong):
    """Whether some report with so many silent machines is fitted by two joint states."""
    for report in all_reports(team):
        if report.count(None) <= silent:
            if sum(1 for states in team.joint_states() if wrong_ones(states, report) <= wrong) > 1:
                return True
    return False


class ReportOf(Case):
    def test_all_groups_of_small_teams(self):
        for team in SMALL_TEAMS:
            for number, states in enumerate(team.joint_states()):
                for group in groups(len(team)):
                    report = tuple(None if at in group else state for at, state in enumerate(states))
                    self.assertEqual(report_of(team, number, silent=group), report)
                    self.assertEqual(report_of(team, number, silent=tuple(group)), report)
                self.assertEqual(report_of(team, number), states)

    def test_none_some_and_all_are_silent(self):
        team = Team([R2, A3])
        self.assertEqual(report_of(team, 5), (1, 2))
        self.assertEqual(report_of(team, 5, silent=[0]), (None, 2))
        self.assertEqual(report_of(team=team, number=5, silent=(1,)), (1, None))
        self.assertEqual(report_of(team, 5, silent=[0, 1]), (None, None))
        self.assertIsInstance(report_of(team, 0), tuple)

    def test_wrong_numbers(self):
        for value in (4, -1, 10 ** 31, True, False, None, "0", (0, 0), (0,), [0], []):
            with self.subTest(value):
                self.gives(InvalidState, value, report_of, COUNTS, value)
                self.gives(InvalidState, value, report_of, COUNTS, value, silent=[7])

    def test_wrong_groups(self):
        for value in ([1, 0], [0, 0], [1, 1], [2], [-1], [0, 2], [-1, 0], [True], [False], [0, True], [None], ["0"], "01",
                      "", 0, 1, True, None, [[0]], [(0,)], ((0,),), (1, 0), (True,), [10 ** 31], [0, 1, 1], [0, 1, 2]):
            with self.subTest(value):
                self.fails(InvalidGroup, report_of, COUNTS, 0, silent=value)

    def test_silent_is_passed_by_name(self):
        with self.assertRaises(TypeError):
            report_of(COUNTS, 0, [0])

    def test_the_group_stays_as_it_is(self):
        group = [0]
        report_of(COUNTS, 1, silent=group)
        self.assertEqual(group, [0])


class Fitting(Case):
    def test_all_reports_of_small_teams(self):
        for team in SMALL_TEAMS:
            for report in all_reports(team):
                wrongs = [wrong_ones(states, report) for states in team.joint_states()]
                for wrong in (*range(len(team) + 2), MOST):
                    fitted = [number for number, many in enumerate(wrongs) if many <= wrong]
                    self.assertEqual(fitting(team, report, wrong=wrong), fitted)
                self.assertEqual(fitting(team, report), [number for number, many in enumerate(wrongs) if many == 0])

    def test_written_out(self):
        team = Team([R2, A3])
        self.assertEqual(fitting(team, (None, 2)), [3, 5])
        self.assertEqual(fitting(team, (1, 2), wrong=1), [1, 2, 3, 5])
        self.assertEqual(fitting(team=team, report=(None, None), wrong=0), [0, 1, 2, 3, 4, 5])
        self.assertEqual(fitting(team, (1, 2), wrong=2), [0, 1, 2, 3, 4, 5])

    def test_a_report_that_nothing_fits(self):
        team = Team([A2, A2])
        self.assertEqual(fitting(team, (0, 1)), [])
        self.assertEqual(fitting(team, (0, 1), wrong=1), [0, 1])

    def test_states_that_no_word_leads_to_may_be_reported(self):
        team = Team([Machine("a", [[0], [0]]), Machine("a", [[0]])])
        self.assertEqual(fitting(team, (1, 0)), [])
        self.assertEqual(fitting(team, (1, 0), wrong=1), [0])
        self.assertEqual(fitting(team, (None, 0)), [0])

    def test_no_reports(self):
        team = Team([R2, A3])
        for value in ((), (0,), (0, 0, 0), (2, 0), (0, 3), (-1, 0), (True, 0), (0, False), ("0", 0), (None, "1"), ((0,), 0),
                      ([0], 0), [0, 0], [None, None], [], None, 0, True, "00", "", ((0, 0),), [(0, 0)], (10 ** 31, 0)):
            with self.subTest(value):
                self.fails(InvalidReport, fitting, team, value)
                # Listed first, so raised first.
                self.fails(InvalidReport, fitting, team, value, wrong=-1)
                self.fails(InvalidReport, fitting, team, value, wrong=True)

    def test_wrong_counts(self):
        for value in WRONG_COUNTS:
            with self.subTest(value):
                self.gives(InvalidCount, value, fitting, COUNTS, (0, 0), wrong=value)
                self.gives(InvalidCount, value, fitting, COUNTS, (None, None), wrong=value)

    def test_wrong_is_passed_by_name(self):
        with self.assertRaises(TypeError):
            fitting(COUNTS, (0, 0), 1)

    def test_returned_lists_are_new(self):
        fitting(COUNTS, (0, 0)).append(7)
        self.assertEqual(fitting(COUNTS, (0, 0)), [0])


class Safety(Case):
    def test_safe_against_all_reports(self):
        for team in SMALL_TEAMS:
            for silent in range(len(team) + 2):
                for wrong in range(len(team) + 2):
                    with self.subTest(team, silent=silent, wrong=wrong):
                        safe = not confuses(team, silent, wrong)
                        self.assertIs(is_safe(team, silent=silent, wrong=wrong), safe)

    def test_the_true_joint_state_alone_fits_if_safe(self):
        for team in SMALL_TEAMS:
            for silent, wrong in bearable(team):
                for number, states in enumerate(team.joint_states()):
                    for report in all_reports(team):
                        if report.count(None) <= silent and wrong_ones(states, report) <= wrong:
                            self.assertEqual(fitting(team, report, wrong=wrong), [number])

    def test_copies(self):
        for many in range(1, 7):
            team = Team([A3] * many)
            self.assertEqual([is_safe(team, silent=silent) for silent in range(8)], [at < many for at in range(8)])
            self.assertEqual([is_safe(team, wrong=wrong) for wrong in range(8)], [2 * at < many for at in range(8)])

    def test_defaults(self):
        self.assertIs(is_safe(COUNTS), True)
        self.assertIs(is_safe(COUNTS, silent=1), False)
        self.assertIs(is_safe(COUNTS, wrong=1), False)
        self.assertEqual((need(COUNTS), need(COUNTS, silent=1), need(COUNTS, wrong=1)), (0, 1, 2))

    def test_one_joint_state_bears_all(self):
        for team in (Team([STAY]), Team([STAY] * 6), Team([Machine("a", [[0], [0]])])):
            self.assertIs(is_safe(team, silent=MOST, wrong=MOST), True)
            self.assertEqual(need(team, silent=MOST, wrong=MOST), 0)
            self.assertEqual(bearable(team), [])

    def test_counts_at_the_bound_and_beyond(self):
        for call in (is_safe, need):
            for value in WRONG_COUNTS:
                for team in (COUNTS, Team([STAY])):
                    with self.subTest(value, call=call.__name__):
                        self.gives(InvalidCount, value, call, team, silent=value)
                        self.gives(InvalidCount, value, call, team, wrong=value)
                        self.gives(InvalidCount, value, call, team, silent=value, wrong=-7)
                        self.gives(InvalidCount, value, call, team, silent=MOST, wrong=value)
        self.assertIs(is_safe(COUNTS, silent=MOST, wrong=MOST), False)
        self.assertEqual(need(COUNTS, silent=MOST, wrong=MOST), 3 * MOST)

    def test_counts_are_passed_by_name(self):
        for call in (is_safe, need):
            with self.assertRaises(TypeError):
                call(COUNTS, 0, 0)

    def test_need(self):
        for team in SMALL_TEAMS:
            for silent in range(9):
                for wrong in range(5):
                    wanted = silent + 2 * wrong + 1 - (team.distance or MOST)
                    self.assertEqual(need(team, silent=silent, wrong=wrong), max(0, wanted))
                    self.assertEqual(need(team, silent=silent, wrong=wrong) == 0, is_safe(team, silent=silent, wrong=wrong))

    def test_the_need_is_met_by_copies_of_the_joint_machine(self):
        for team in SMALL_TEAMS:
            for silent, wrong in ((1, 0), (0, 1), (2, 0), (2, 1)):
                many = need(team, silent=silent, wrong=wrong)
                if len(team) + many <= 6:
                    self.assertTrue(is_safe(team.with_machines(*[team.joint()] * many), silent=silent, wrong=wrong))

    def test_bearable(self):
        for team in SMALL_TEAMS:
            pairs = [(silent, wrong) for wrong in range(9) for silent in range(9)
                     if is_safe(team, silent=silent, wrong=wrong) and not is_safe(team, silent=silent + 1, wrong=wrong)]
            self.assertEqual(bearable(team), pairs)
        self.assertEqual(bearable(COUNTS), [(0, 0)])
        self.assertEqual(bearable(Team([A2, B2, R2])), [(1, 0)])
        self.assertEqual(bearable(team=Team([B2] * 6)), [(5, 0), (3, 1), (1, 2)])
        self.assertEqual(bearable(Team([B2] * 5)), [(4, 0), (2, 1), (0, 2)])

    def test_bearable_returns_a_new_list_of_tuples(self):
        bearable(COUNTS).append((9, 9))
        self.assertEqual(bearable(COUNTS), [(0, 0)])
        self.assertIsInstance(bearable(COUNTS)[0], tuple)


if __name__ == "__main__":
    unittest.main()
