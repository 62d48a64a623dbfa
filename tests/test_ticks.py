import unittest
from itertools import combinations

from helpers import (A2, A3, B2, COUNTED_TEAMS, COUNTS, FALL, LINE, MOST, ODD_VALUES, R2, RINGS, STAY, WRONG_COUNTS, Case,
                     bent_ring, cycle, steps_by_words, steps_in_turn)

from othersknow.errors import InvalidCount, InvalidState
from othersknow.machines import Machine
from othersknow.teams import Team
from othersknow.ticks import Ticks, relation_holds

WRONG_STATES = [-1, 24, 10 ** 30, True, False, None, "0", "", (0,), [0], [], ()]


def least_parting(team, row_by_row):
    """The least number of machines in the parting of two joint states of one row, by the words of the document."""
    sizes = [len(team.parting(one, other)) for row in row_by_row for one, other in combinations(sorted(row), 2)]
    return min(sizes, default=None)


def pairs_of(rows):
    """The ascending list of the pairs (s, t) with t in the row of s."""
    return sorted((start, end) for start, row in enumerate(rows) for end in row)


class Steps(Case):
    def test_behind_against_all_words(self):
        for team in COUNTED_TEAMS:
            table = Ticks(team)
            for many in range(6):
                rows = steps_by_words(team, many)
                for number, row in enumerate(rows):
                    with self.subTest(team, many=many, number=number):
                        self.assertEqual(table.behind(number, many), sorted(row))

    def test_spread_against_all_words(self):
        for team in COUNTED_TEAMS:
            table = Ticks(team)
            size = len(team.joint_states())
            lists = [[], [0], [0, 0], list(range(size)), [size - 1, 0], tuple(range(size // 2)), [size // 2] * 400]
            for many in range(6):
                rows = steps_by_words(team, many)
                for numbers in lists:
                    behind = sorted(set().union(*[rows[number] for number in numbers]))
                    self.assertEqual(table.spread(numbers, many), behind)

    def test_far_numbers_of_letters(self):
        for team in COUNTED_TEAMS:
            begin, period, found = cycle(team)
            table = Ticks(team)
            in_turn = steps_in_turn(team, 3 * (begin + period) + 5)
            for many in (*range(len(in_turn)), 400, 10 ** 9 + 7, 123456789012345678901234567890, MOST - 1, MOST):
                rows = in_turn[many] if many < len(in_turn) else found[begin + (many - begin) % period]
                for number, row in enumerate(rows):
                    self.assertEqual(table.behind(number, many), sorted(row))
                self.assertEqual(table.spread([0, len(rows) - 1], many), sorted(rows[0] | rows[-1]))

    def test_rings_with_thirty_digits(self):
        table = Ticks(Team([Machine.ring("ab", 7), Machine.ring("ab", 3)]))
        for count in (MOST, MOST - 1, 987654321098765432109876543210):
            for number in range(21):
                self.assertEqual(table.behind(number, count), [(number + count) % 21])

    def test_by_name(self):
        table = Ticks(team=COUNTS)
        self.assertEqual(table.behind(number=0, count=2), table.behind(0, 2))
        self.assertEqual(table.spread(numbers=[0, 1], count=1), table.spread([0, 1], 1))
        self.assertEqual(table.distance_after(count=2), 2)
        self.assertIs(table.is_safe(count=2, silent=1, wrong=0), True)
        for call in (lambda: table.is_safe(2, 1), lambda: table.safe_counts(1)):
            with self.assertRaises(TypeError):
                call()

    def test_returned_lists_are_new(self):
        table = Ticks(COUNTS)
        numbers = [0, 1]
        table.behind(0, 1).clear()
        table.spread(numbers, 1).append(9)
        table.safe_counts(silent=1).clear()
        self.assertEqual((table.behind(0, 1), table.spread(numbers, 1)), ([1, 2], [0, 1, 2, 3]))
        self.assertEqual((table.safe_counts(silent=1), numbers), ([True, True, True], [0, 1]))


class Numbers(Case):
    def test_begin_and_period_are_the_least(self):
        for team in COUNTED_TEAMS:
            with self.subTest(team):
                begin, period, found = cycle(team)
                table = Ticks(team)
                self.assertEqual((table.begin, table.period), (begin, period))
                self.assertIs(table.team, team)

    def test_rings_whose_sizes_have_no_common_divisor(self):
        for sizes in ((2, 3), (3, 8), (3, 7), (4, 5), (2, 11)):
            table = Ticks(Team([Machine.ring("ab", size) for size in sizes]))
            self.assertEqual((table.begin, table.period), (0, sizes[0] * sizes[1]))
        table = Ticks(Team([RINGS]))
        self.assertEqual((table.begin, table.period), (1, 6))

    def test_machines_that_end_in_one_state(self):
        for size in range(1, 25):
            line = Machine("a", [[min(state + 1, size - 1)] for state in range(size)])
            table = Ticks(Team([line]))
            self.assertEqual((table.begin, table.period), (size - 1, 1))
            self.assertEqual(table.behind(0, MOST), [size - 1])
        table = Ticks(Team([STAY]))
        self.assertEqual((table.begin, table.period), (0, 1))

    def test_bent_rings_have_a_large_begin(self):
        for size in range(2, 25):
            table = Ticks(Team([bent_ring(size)]))
            self.assertEqual((table.begin, table.period), ((size - 1) ** 2 + 1, 1))
        table = Ticks(Team([bent_ring(24)]))
        # One letter before the begin a single pair is left out.
        self.assertEqual(len(table.behind(0, 529)), 23)
        self.assertEqual(sum(len(table.behind(number, 529)) for number in range(24)), 24 * 24 - 1)
        self.assertEqual(table.behind(7, 530), list(range(24)))

    def test_many_rings_in_one_machine(self):
        rows = [[1, 4, 9]]
        for size in (3, 5, 7, 8):
            first = len(rows)
            rows += [[first + (at + 1) % size] * 3 for at in range(size)]
        rows[1] = [2, 16, 2]
        team = Team([Machine("abc", rows)] * 6)
        begin, period, found = cycle(team)
        table = Ticks(team)
        self.assertEqual((table.begin, table.period), (begin, period))
        self.assertEqual(period, 840)
        self.assertEqual(table.safe_counts(silent=5), [True] * (begin + period))
        self.assertEqual(table.safe_counts(wrong=3), [least_parting(team, rows) is None for rows in found[:-1]])

    def test_properties_cannot_be_assigned(self):
        table = Ticks(COUNTS)
        for name in ("team", "begin", "period"):
            with self.assertRaises(AttributeError):
                setattr(table, name, 1)

    def test_repr(self):
        self.assertEqual(repr(Ticks(COUNTS)), "Ticks(begin 1, period 2)")
        self.assertEqual(repr(Ticks(Team([STAY]))), "Ticks(begin 0, period 1)")
        self.assertEqual(repr(Ticks(Team([bent_ring(24)]))), "Ticks(begin 530, period 1)")
        self.assertEqual(repr(Ticks(Team([RINGS]))), "Ticks(begin 1, period 6)")

    def test_equality(self):
        self.assertTrue(Ticks(COUNTS) == Ticks(Team([A2, B2])))
        self.assertFalse(Ticks(COUNTS) != Ticks(Team([A2, B2])))
        for other in (Ticks(Team([B2, A2])), Ticks(Team([A2])), Ticks(Team([A2, B2, B2])), COUNTS, None, 1, True, "", (), []):
            self.assertFalse(Ticks(COUNTS) == other)
            self.assertTrue(Ticks(COUNTS) != other)
        # Both tell the same, but of unlike teams.
        self.assertFalse(Ticks(Team([Machine("a", [[0], [1]])])) == Ticks(Team([Machine("a", [[0]])])))


class Distances(Case):
    def test_against_the_relations(self):
        for team in COUNTED_TEAMS:
            begin, period, found = cycle(team)
            table = Ticks(team)
            for count, rows in enumerate(found[:-1]):
                self.assertEqual(table.distance_after(count), least_parting(team, rows))
            for count in (begin + period, 10 ** 29 + 1, MOST):
                rows = found[begin + (count - begin) % period]
                self.assertEqual(table.distance_after(count), least_parting(team, rows))

    def test_safe_against_the_relations(self):
        for team in COUNTED_TEAMS:
            begin, period, found = cycle(team)
            table = Ticks(team)
            least = [least_parting(team, rows) for rows in found[:-1]]
            for silent in range(len(team) + 2):
                for wrong in range(len(team) + 1):
                    wanted = [far is None or far > silent + 2 * wrong for far in least]
                    self.assertEqual(table.safe_counts(silent=silent, wrong=wrong), wanted)
                    for count in {0, begin, begin + period - 1}:
                        self.assertIs(table.is_safe(count, silent=silent, wrong=wrong), wanted[count])
                    far = begin + (MOST - begin) % period
                    self.assertIs(table.is_safe(MOST, silent=silent, wrong=wrong), wanted[far])

    def test_written_out(self):
        table = Ticks(COUNTS)
        self.assertEqual([table.distance_after(count) for count in range(5)], [None, 2, 2, 2, 2])
        self.assertEqual(table.safe_counts(silent=1), [True, True, True])
        self.assertEqual(table.safe_counts(silent=2), [True, False, False])
        self.assertEqual(table.safe_counts(wrong=1), [True, False, False])
        self.assertEqual(table.safe_counts(), [True, True, True])
        self.assertIs(table.is_safe(7), True)
        table = Ticks(Team([A2]))
        self.assertEqual([table.is_safe(1), table.is_safe(1, silent=1), table.is_safe(1, wrong=1)], [True, False, False])
        self.assertEqual([table.safe_counts(), table.safe_counts(silent=1)], [[True, True], [True, False]])

    def test_none_where_there_are_no_two(self):
        for team in (Team([R2]), Team([LINE]), Team([Machine.ring("ab", 24)] * 6), Team([STAY])):
            table = Ticks(team)
            for count in (0, 1, 2, 99, MOST):
                self.assertIsNone(table.distance_after(count))
                self.assertIs(table.is_safe(count, silent=MOST, wrong=MOST), True)

    def test_wrong_counts(self):
        for value in WRONG_COUNTS:
            for table in (Ticks(COUNTS), Ticks(Team([STAY]))):
                with self.subTest(value):
                    self.gives(InvalidCount, value, table.distance_after, value)
                    self.gives(InvalidCount, value, table.is_safe, value)
                    self.gives(InvalidCount, value, table.is_safe, value, silent=-5, wrong=-6)
                    self.gives(InvalidCount, value, table.is_safe, 3, silent=value)
                    self.gives(InvalidCount, value, table.is_safe, MOST, silent=value, wrong=-6)
                    self.gives(InvalidCount, value, table.is_safe, 0, silent=MOST, wrong=value)
                    self.gives(InvalidCount, value, table.safe_counts, silent=value)
                    self.gives(InvalidCount, value, table.safe_counts, silent=value, wrong=-6)
                    self.gives(InvalidCount, value, table.safe_counts, wrong=value)
                    self.gives(InvalidCount, value, table.behind, 0, value)
                    self.gives(InvalidCount, value, table.spread, [0], value)
                    self.gives(InvalidCount, value, table.spread, [], value)

    def test_counts_at_the_bounds(self):
        table = Ticks(COUNTS)
        self.assertEqual([table.behind(0, 0), table.behind(0, MOST)], [[0], [0, 3]])
        self.assertEqual([table.spread([1], 0), table.spread([1], MOST - 1)], [[1], [0, 3]])
        self.assertEqual([table.distance_after(0), table.distance_after(MOST)], [None, 2])
        self.assertEqual([table.is_safe(MOST, silent=MOST), table.is_safe(0, wrong=MOST)], [False, True])


class WrongStates(Case):
    def test_wrong_states(self):
        table = Ticks(COUNTS)
        for value in [*WRONG_STATES, 4]:
            with self.subTest(value):
                self.gives(InvalidState, value, table.behind, value, 1)
                self.gives(InvalidState, value, table.behind, value, -1)
                self.gives(InvalidState, value, table.behind, value, True)
                self.gives(InvalidState, value, table.spread, [0, value, -7], 1)
                self.gives(InvalidState, value, table.spread, (3, value, value), MOST + 1)
                self.gives(InvalidState, value, table.spread, [value], None)

    def test_the_bounds_of_a_number(self):
        table = Ticks(Team([R2, A3]))
        self.assertEqual([table.behind(number, 0) for number in range(6)], [[at] for at in range(6)])
        self.gives(InvalidState, 6, table.behind, 6, 0)
        self.gives(InvalidState, -1, table.spread, [5, -1, 6], 0)

    def test_what_is_no_list(self):
        for value in (None, 0, True, "0", "ab"):
            self.gives(InvalidState, value, Ticks(COUNTS).spread, value, 1)


class Relations(Case):
    def test_right_lists_and_tuples(self):
        for team in COUNTED_TEAMS:
            for count, rows in enumerate(steps_in_turn(team, 12)):
                pairs = pairs_of(rows)
                self.assertIs(relation_holds(team, count, pairs), True)
                self.assertIs(relation_holds(team, count, tuple(pairs)), True)
            self.assertIs(relation_holds(team, 400, pairs_of(steps_in_turn(team, 400)[400])), True)
        team = Team([bent_ring(24)])
        self.assertIs(relation_holds(team=team, count=400, pairs=pairs_of(steps_in_turn(team, 400)[400])), True)

    def test_lists_of_other_numbers_of_letters(self):
        for team in COUNTED_TEAMS:
            found = [pairs_of(rows) for rows in steps_in_turn(team, 9)]
            for count in range(10):
                for other in range(10):
                    self.assertIs(relation_holds(team, count, found[other]), found[count] == found[other])

    def test_bent_lists(self):
        for team in (COUNTS, Team([R2, A3]), Team([FALL]), Team([STAY])):
            size = len(team.joint_states())
            for count in range(4):
                pairs = pairs_of(steps_in_turn(team, count)[count])
                for at, (start, end) in enumerate(pairs):
                    bent = [pairs[:at] + pairs[at + 1:], pairs[:at] + [pairs[at]] + pairs[at:]]
                    for fresh in ([start, end], (start,), (start, end, end), (start, None), (None, end), (str(start), end),
                                  (start, size), (-1, end), (start, -1), ((start,), end), start, None, (), "ab", [],
                                  ((start, end),), (start, [end])):
                        bent.append(pairs[:at] + [fresh] + pairs[at + 1:])
                    if start < 2:
                        bent.append(pairs[:at] + [(bool(start), end)] + pairs[at + 1:])
                    if end < 2:
                        bent.append(pairs[:at] + [(start, bool(end))] + pairs[at + 1:])
                    for value in bent:
                        self.assertIs(relation_holds(team, count, value), False)
                        self.assertIs(relation_holds(team, count, tuple(value)), False)
                others = [(start, end) for start in range(size) for end in range(size) if (start, end) not in pairs]
                for pair in others:
                    self.assertIs(relation_holds(team, count, sorted([*pairs, pair])), False)

    def test_turned_lists_and_pairs(self):
        team = Team([FALL])
        for count in range(1, 4):
            pairs = pairs_of(steps_in_turn(team, count)[count])
            self.assertIs(relation_holds(team, count, pairs[::-1]), False)
            self.assertIs(relation_holds(team, count, [pairs[1], pairs[0], *pairs[2:]]), False)
            for at, (start, end) in enumerate(pairs):
                if start != end:
                    self.assertIs(relation_holds(team, count, pairs[:at] + [(end, start)] + pairs[at + 1:]), False)

    def test_values_of_every_kind(self):
        for value in ODD_VALUES:
            for count in (0, 1, 400):
                self.assertIs(relation_holds(COUNTS, count, value), False)
                self.assertIs(relation_holds(Team([STAY]), count, value), False)
        self.assertIs(relation_holds(Team([STAY]), 400, [(0, 0)]), True)
        self.assertIs(relation_holds(Team([STAY]), 400, [(False, 0)]), False)

    def test_wrong_counts(self):
        for value in [*WRONG_COUNTS, 401, MOST]:
            self.gives(InvalidCount, value, relation_holds, COUNTS, value, [])
            self.gives(InvalidCount, value, relation_holds, COUNTS, value, None)

    def test_the_list_stays_as_it_is(self):
        pairs = [(0, 0), (1, 1), (2, 2), (3, 3)]
        self.assertTrue(relation_holds(COUNTS, 0, pairs))
        self.assertEqual(pairs, [(0, 0), (1, 1), (2, 2), (3, 3)])


if __name__ == "__main__":
    unittest.main()
