import unittest
from itertools import product

from helpers import (A2, A3, B2, COUNTED_TEAMS, COUNTS, LINE, MOST, ODD_VALUES, R2, STAY, WRONG_COUNTS, Case, bent_ring, cycle,
                     groups, letter_words, steps_in_turn)

from othersknow.errors import InvalidCount, InvalidGroup
from othersknow.late import Late, late_pair_holds
from othersknow.machines import Machine
from othersknow.teams import Team
from othersknow.ticks import Ticks

THREE = Team([A2, B2, R2])
WRONG_GROUPS = [None, 0, True, "0", "", [2], [-1], [0, 0], [1, 0], [True], [False], [0, True], ["0"], [None], [[0]], [(0,)],
                (1, 0), (0, 1, 2), [0, 1, 2], [10 ** 30], {}]


def late_report(team, group, start, end):
    """What the machines state, those of a group of the joint state so many letters ago."""
    states = team.joint_states()
    return tuple(states[start][at] if at in group else states[end][at] for at in range(len(team)))


def is_late_pair(team, group, rows, pair):
    """Whether four numbers are a late pair, by the words of the document."""
    s, t, u, v = pair
    states = team.joint_states()
    others = [at for at in range(len(team)) if at not in group]
    return (t in rows[s] and v in rows[u] and t != v and all(states[s][at] == states[u][at] for at in group)
            and all(states[t][at] == states[v][at] for at in others))


def late_pairs(team, group, rows):
    """All late pairs in ascending order."""
    return [pair for pair in product(range(len(rows)), repeat=4) if is_late_pair(team, group, rows, pair)]


class Clear(Case):
    def test_clear_against_all_histories(self):
        for team in COUNTED_TEAMS:
            joint = team.joint()
            for group in groups(team):
                made = Late(team, group)
                for count in range(5):
                    ends = {}
                    for start in range(joint.states):
                        for word in letter_words(team, count):
                            end = joint.behind(word, state=start)
                            ends.setdefault(late_report(team, group, start, end), set()).add(end)
                    with self.subTest(team, group=group, count=count):
                        self.assertIs(made.clear(count), all(len(found) == 1 for found in ends.values()))

    def test_the_first_late_pair(self):
        for team in COUNTED_TEAMS:
            for group in groups(team):
                made = Late(team, group)
                for count, rows in enumerate(steps_in_turn(team, 5)):
                    pairs = late_pairs(team, group, rows)
                    with self.subTest(team, group=group, count=count):
                        self.assertEqual(made.late_pair(count), pairs[0] if pairs else None)
                        self.assertIs(made.clear(count), not pairs)
                        for pair in pairs[::17]:
                            self.assertIs(late_pair_holds(team, group, count, pair), True)

    def test_far_numbers_of_letters(self):
        for team in COUNTED_TEAMS:
            begin, period, found = cycle(team)
            for group in groups(team)[::3]:
                made = Late(team, group)
                for count in (begin, begin + period + 3, 10 ** 9 + 7, 123456789012345678901234567890, MOST - 1, MOST):
                    at = begin + (count - begin) % period
                    pairs = late_pairs(team, group, found[at])
                    self.assertEqual(made.late_pair(count), pairs[0] if pairs else None)
                    self.assertIs(made.clear(count), not pairs)
                    if pairs:
                        self.assertIs(late_pair_holds(team, group, count, pairs[-1]), True)

    def test_clear_counts(self):
        for team in COUNTED_TEAMS:
            table = Ticks(team)
            for group in groups(team):
                made = Late(team, group)
                wanted = [made.clear(count) for count in range(table.begin + table.period)]
                self.assertEqual(made.clear_counts(), wanted)
        team = Team([bent_ring(24)] * 2)
        self.assertEqual(Late(team, [0]).clear_counts(), [True] * 531)
        self.assertEqual(Late(team, [0, 1]).clear_counts(), [True] + [False] * 530)

    def test_the_empty_group(self):
        for team in COUNTED_TEAMS:
            made = Late(team, [])
            for count in (0, 1, 2, 3, 77, MOST):
                self.assertIs(made.clear(count), True)
                self.assertIsNone(made.late_pair(count))

    def test_the_group_of_all_machines(self):
        for team in COUNTED_TEAMS:
            made = Late(team, range_list(team))
            for count, rows in enumerate(steps_in_turn(team, 8)):
                self.assertIs(made.clear(count), all(len(row) == 1 for row in rows))
        # Without a choice of letters all can be told at any time.
        for team in (Team([LINE]), Team([Machine.ring("ab", 5), R2])):
            self.assertIs(Late(team, range_list(team)).clear(MOST), True)

    def test_written_out(self):
        made = Late(COUNTS, [0])
        self.assertEqual([made.clear(0), made.late_pair(1), made.clear(1), made.clear_counts()],
                         [True, (0, 1, 2, 0), False, [True, False, False]])
        made = Late(THREE, [0])
        self.assertEqual([made.clear(count) for count in range(5)], [True] * 5)
        self.assertEqual([Late(THREE, [0, 1]).clear(count) for count in range(3)], [True, False, False])
        self.assertEqual(Late(THREE, [1, 2]).late_pair(1), None)
        self.assertEqual(Late(THREE, [0, 1, 2]).late_pair(1), (0, 1, 0, 2))

    def test_by_name_and_by_position(self):
        made = Late(team=COUNTS, group=[0])
        self.assertEqual([made.clear(count=1), made.late_pair(count=1)], [False, (0, 1, 2, 0)])
        self.assertIs(late_pair_holds(team=COUNTS, group=[0], count=1, value=(0, 1, 2, 0)), True)
        self.assertIsInstance(made.late_pair(1), tuple)


def range_list(team):
    return list(range(len(team)))


class Papers(Case):
    def test_all_quadruples(self):
        for team in (COUNTS, Team([A2, A2]), Team([STAY, STAY]), Team([Machine("a", [[1], [1]]), Machine("a", [[1], [0]])])):
            size = len(team.joint_states())
            for group in groups(team):
                for count, rows in enumerate(steps_in_turn(team, 2)):
                    for pair in product(range(size), repeat=4):
                        self.assertIs(late_pair_holds(team, group, count, pair), is_late_pair(team, group, rows, pair))

    def test_pairs_bent_in_each_place(self):
        team = Team([R2, A3])
        for group in groups(team):
            for count, rows in enumerate(steps_in_turn(team, 3)):
                for pair in late_pairs(team, group, rows)[::5]:
                    for at in range(4):
                        for fresh in range(6):
                            bent = (*pair[:at], fresh, *pair[at + 1:])
                            self.assertIs(late_pair_holds(team, group, count, bent), is_late_pair(team, group, rows, bent))
                        others = [None, -1, 6, 10 ** 30, str(pair[at]), (pair[at],), [pair[at]], "", (), []]
                        if pair[at] < 2:
                            others.append(bool(pair[at]))
                        for fresh in others:
                            bent = (*pair[:at], fresh, *pair[at + 1:])
                            self.assertIs(late_pair_holds(team, group, count, bent), False)
                    for bent in (list(pair), pair[:3], (*pair, 0), (pair,), [pair], pair + pair, (pair[:2], pair[2:])):
                        self.assertIs(late_pair_holds(team, group, count, bent), False)

    def test_values_of_every_kind(self):
        for value in [*ODD_VALUES, (0, 1, 2), (0, 1, 2, 0, 0), [0, 1, 2, 0], "0120"]:
            for count in (0, 1, MOST):
                self.assertIs(late_pair_holds(COUNTS, [0], count, value), False)
        self.assertIs(late_pair_holds(COUNTS, [0], 1, (False, 1, 2, 0)), False)
        self.assertIs(late_pair_holds(COUNTS, [0], 1, (0, True, 2, 0)), False)
        self.assertIs(late_pair_holds(COUNTS, (0,), 1, (0, 1, 2, 0)), True)


class Wrong(Case):
    def test_wrong_groups(self):
        for group in WRONG_GROUPS:
            with self.subTest(group):
                self.fails(InvalidGroup, Late, COUNTS, group)
                self.fails(InvalidGroup, late_pair_holds, COUNTS, group, 1, (0, 1, 2, 0))
                # Listed first, so raised first.
                self.fails(InvalidGroup, late_pair_holds, COUNTS, group, -1, None)
                self.fails(InvalidGroup, late_pair_holds, COUNTS, group, True, (0, 1, 2, 0))

    def test_wrong_counts(self):
        made = Late(COUNTS, [0])
        for value in WRONG_COUNTS:
            with self.subTest(value):
                self.gives(InvalidCount, value, made.clear, value)
                self.gives(InvalidCount, value, made.late_pair, value)
                self.gives(InvalidCount, value, late_pair_holds, COUNTS, [], value, None)
                self.gives(InvalidCount, value, Late(Team([STAY]), []).clear, value)
        self.assertEqual([made.clear(0), made.clear(MOST), made.late_pair(0)], [True, False, None])

    def test_properties_and_groups(self):
        made = Late(COUNTS, [0])
        self.assertIs(made.team, COUNTS)
        with self.assertRaises(AttributeError):
            made.team = THREE
        for group in groups(THREE):
            self.assertEqual(Late(THREE, group).group(), group)
            self.assertEqual(Late(THREE, tuple(group)).group(), group)
            self.assertIsInstance(Late(THREE, tuple(group)).group(), list)

    def test_the_group_told_and_changed(self):
        group = [0]
        made = Late(COUNTS, group)
        group.append(1)
        made.group().append(5)
        self.assertEqual((made.group(), made.clear(1), repr(made)), ([0], False, "Late(1 of 2 machines)"))
        made.clear_counts().clear()
        self.assertEqual(made.clear_counts(), [True, False, False])
        group = [0]
        late_pair_holds(COUNTS, group, 1, (0, 1, 2, 0))
        self.assertEqual(group, [0])

    def test_repr(self):
        self.assertEqual(repr(Late(THREE, [2])), "Late(1 of 3 machines)")
        self.assertEqual(repr(Late(THREE, [])), "Late(0 of 3 machines)")
        self.assertEqual(repr(Late(THREE, (0, 1, 2))), "Late(3 of 3 machines)")
        self.assertEqual(repr(Late(Team([STAY]), [0])), "Late(1 of 1 machines)")


if __name__ == "__main__":
    unittest.main()
