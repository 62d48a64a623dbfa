import unittest
from itertools import combinations, combinations_with_replacement, islice, product

from helpers import (A2, A3, B2, COUNTS, FALL, ODD_VALUES, R2, SMALL_TEAMS, STAY, Case, all_images, machines, partitions,
                     stays_together)

from othersknow.errors import InvalidCount, InvalidPartition
from othersknow.machines import Machine
from othersknow.partitions import images, quotient
from othersknow.reports import is_safe, need
from othersknow.spares import are_spares, least_spares, useful, with_spares
from othersknow.teams import Team

MOST = 10 ** 30
WRONG_COUNTS = [-1, MOST + 1, -MOST, True, False, None, "0", (0,), [0]]
SMALL = [team for team in SMALL_TEAMS if len(team.joint_states()) < 7]
ASKED = [(0, 0), (1, 0), (0, 1), (2, 0), (1, 1), (3, 0), (0, 2), (4, 0)]


def pair_team(alphabet, moves, blocks):
    """The team of a machine and one of its quotients: few of the pairs are weakest ones."""
    machine = Machine(alphabet, moves)
    return Team([machine, quotient(machine, blocks)])


def tree(letters, parents, sink):
    """The moves of a machine whose letters lead down a tree; from its leaves on they lead to a sink."""
    goals = iter(range(1, sink))
    moves = [[next(goals, sink) for letter in range(letters)] for state in range(parents)]
    return moves + [[sink] * letters for state in range(parents, sink + 1)]


# Teams with the number of their useful images.
U24 = pair_team("abc", [[1, 2, 3], [4, 5, 6], [6, 6, 6], [3, 6, 6], [6, 6, 6], [6, 6, 6], [6, 6, 6]], [0, 1, 2, 3, 2, 4, 5])
U25 = pair_team("abc", [[1, 2, 3], [4, 5, 6], [6, 6, 6], [6, 6, 6], [4, 6, 6], [5, 6, 6], [6, 6, 6]], [0, 1, 2, 3, 4, 5, 2])
U48 = pair_team("abc", [[1, 2, 7], [3, 4, 5], [6, 7, 7], [7, 7, 7], [7, 7, 7], [7, 7, 7], [7, 7, 7], [7, 7, 7]],
                [0, 1, 2, 3, 3, 4, 4, 5])
U49 = pair_team("abc", [[1, 2, 3], [7, 4, 5], [6, 7, 7], [7, 7, 7], [4, 7, 7], [7, 7, 7], [6, 7, 7], [7, 7, 7]],
                [0, 1, 2, 3, 4, 3, 5, 6])
U199 = pair_team("abc", [[1, 2, 3], [4, 5, 6], [2, 7, 11], [8, 9, 10]] + [[11, 11, 11]] * 8,
                 [0, 1, 1, 2, 1, 1, 1, 1, 3, 4, 4, 1])
U200 = pair_team("abc", [[1, 2, 3], [4, 5, 6], [7, 8, 9], [10, 10, 10], [10, 10, 10], [5, 10, 10], [10, 10, 10],
                         [10, 10, 10], [8, 10, 10], [10, 10, 10], [10, 10, 10]], [0, 1, 1, 2, 2, 3, 4, 2, 3, 4, 5])
U300 = pair_team("abc", [[1, 2, 3], [5, 4, 5], [6, 7, 8], [9, 10, 11], [12, 12, 12], [12, 12, 12], [12, 6, 6], [12, 12, 12],
                         [12, 12, 12], [12, 9, 12], [12, 12, 12], [12, 12, 11], [12, 12, 12]],
                 [0, 1, 1, 2, 3, 4, 4, 3, 4, 5, 6, 7, 4])
U301 = pair_team("abc", [[1, 2, 3], [4, 5, 6], [7, 8, 9], [10, 11, 11], [11, 11, 11], [11, 11, 11], [6, 11, 11],
                         [11, 11, 11], [11, 11, 11], [9, 11, 11], [11, 11, 11], [11, 11, 11]],
                 [0, 1, 1, 2, 3, 4, 5, 3, 4, 5, 2, 2])
# Any of its fifteen leaves may be joined.
WIDE = pair_team("abc", tree(3, 8, 23), [*range(22), 21, 22])


def pairs_of(team):
    """All pairs of numbers of joint states with the number of machines in their partings."""
    states = team.joint_states()
    return {(low, high): sum(1 for one, other in zip(states[low], states[high]) if one != other)
            for low, high in combinations(range(len(states)), 2)}


def useful_images(team):
    """The useful images by the words of the document."""
    weakest = [pair for pair, size in pairs_of(team).items() if size == team.distance]
    return all_images(team.joint(), weakest)


def spares_hold(team, found, silent, wrong):
    """Whether a list of images is a spare list, by the words of the document."""
    wanted = silent + 2 * wrong + 1
    return all(sum(1 for blocks in found if blocks[low] != blocks[high]) >= wanted - size
               for (low, high), size in pairs_of(team).items())


def least_of(team, choices, silent, wrong):
    """The least spares among all lists of so many choices as are needed, in any order."""
    many = need(team, silent=silent, wrong=wrong)
    best = None
    for found in product(choices, repeat=many):
        found = list(found)
        if found == sorted(found) and spares_hold(team, found, silent, wrong):
            size = sum(max(blocks) + 1 for blocks in found)
            if best is None or (size, found) < best:
                best = (size, found)
    return best[1]


def blocks_in_all(found):
    return sum(len(set(blocks)) for blocks in found)


class Useful(Case):
    def test_against_all_images(self):
        for team in SMALL_TEAMS:
            with self.subTest(team):
                self.assertEqual(useful(team), useful_images(team))
        for team in (U24, U25):
            self.assertEqual(useful(team), useful_images(team))

    def test_written_out(self):
        self.assertEqual(useful(COUNTS), [[0, 1, 1, 0], [0, 1, 2, 3]])
        self.assertEqual(useful(team=Team([A2])), [[0, 1]])
        self.assertEqual(useful(Team([A2, B2, R2])), [[0, 1, 2, 3]])

    def test_one_joint_state(self):
        for team in (Team([STAY]), Team([STAY] * 6), Team([Machine("a", [[0], [0]])])):
            self.assertEqual(useful(team), [[0]])

    def test_just_300_and_beyond(self):
        self.assertEqual(len(useful(U300)), 300)
        self.too_many(300, useful, U301)
        self.assertEqual(len(list(images(U301.joint(), apart=U301.weakest()))), 301)

    def test_24_joint_states_with_more_images_than_can_be_listed(self):
        self.assertEqual(len(WIDE.joint_states()), 24)
        self.assertEqual(len(list(islice(images(WIDE.joint(), apart=WIDE.weakest()), 5000))), 5000)
        self.too_many(300, useful, WIDE)
        self.too_many(300, least_spares, WIDE, silent=1)

    def test_returned_lists_are_new(self):
        made = useful(COUNTS)
        made[0].append(7)
        made.append([])
        self.assertEqual(useful(COUNTS), [[0, 1, 1, 0], [0, 1, 2, 3]])


class LeastSpares(Case):
    def test_against_all_lists_of_useful_images(self):
        for team in SMALL:
            for silent, wrong in ASKED:
                if len(team) + need(team, silent=silent, wrong=wrong) <= 6:
                    with self.subTest(team, silent=silent, wrong=wrong):
                        found = least_spares(team, silent=silent, wrong=wrong)
                        self.assertEqual(found, least_of(team, useful_images(team), silent, wrong))

    def test_no_other_images_do_it_with_fewer_blocks(self):
        for team in (COUNTS, Team([FALL]), Team([A2, B2, R2]), Team([A3, A3, A3]), Team([A2, A2, B2])):
            for silent, wrong in ((1, 0), (2, 0), (3, 0)):
                if need(team, silent=silent, wrong=wrong) < 4:
                    found = least_spares(team, silent=silent, wrong=wrong)
                    self.assertEqual(found, least_of(team, all_images(team.joint()), silent, wrong))

    def test_drawn_pairs_of_machines(self):
        made = machines("ab", 2) + machines("ab", 3)[::37]
        for step, one in enumerate(made):
            team = Team([one, made[(7 * step + 3) % len(made)]])
            if 1 < len(team.joint_states()) < 7:
                for silent in (1, 2):
                    self.assertEqual(least_spares(team, silent=silent), least_of(team, useful_images(team), silent, 0))

    def test_lists_with_several_different_images(self):
        for team, silent in ((U24, 1), (U24, 2), (U25, 2), (U48, 1)):
            lists = [list(found) for found in combinations_with_replacement(useful(team), silent)]
            right = [found for found in lists if spares_hold(team, found, silent, 0)]
            least = min(blocks_in_all(found) for found in right)
            first = [found for found in right if blocks_in_all(found) == least][0]
            self.assertEqual(least_spares(team, silent=silent), first)

    def test_the_fewest_blocks_go_before_the_ascending_order(self):
        team = Team([Machine("ab", [[1, 0], [0, 0], [2, 0]]), Machine("ab", [[1, 2], [0, 2], [2, 2]])])
        self.assertEqual(useful(team), [[0, 0, 1, 2], [0, 1, 1, 0], [0, 1, 2, 3]])
        self.assertTrue(all(are_spares(team, [blocks], silent=1) for blocks in useful(team)))
        self.assertEqual(least_spares(team, silent=1), [[0, 1, 1, 0]])
        team = Team([Machine("ab", [[1, 2], [0, 2], [0, 3], [2, 4], [4, 2]]), Machine("ab", [[1, 0], [0, 0], [0, 1]])])
        first = [[0, 0, 1, 2, 3, 2, 4, 5, 6], [0, 1, 2, 3, 4, 5, 6, 1, 0]]
        least = [[0, 0, 1, 2, 3, 4, 5, 2, 4], [0, 1, 2, 3, 4, 3, 5, 1, 0]]
        self.assertTrue(first < least and are_spares(team, first, silent=2) and are_spares(team, least, silent=2))
        self.assertEqual(least_spares(team, silent=2), least)
        self.assertEqual(least_of(team, useful(team), 2, 0), least)

    def test_the_first_of_several_with_as_many_blocks(self):
        team = Team([Machine("ab", [[2, 0], [2, 1], [0, 2]]), Machine("ab", [[2, 2], [1, 0], [0, 1]])])
        one, other = [[0, 0, 1, 1, 2, 2]], [[0, 1, 2, 0, 2, 1]]
        self.assertTrue(are_spares(team, one, silent=1) and are_spares(team, other, silent=1))
        self.assertEqual(least_spares(team, silent=1), one)
        team = Team([Machine("ab", [[0, 1], [0, 0]]), Machine("ab", [[1, 1], [1, 0], [1, 1]])])
        one, other = [[0, 1, 0, 1], [0, 1, 2, 3]], [[0, 1, 0, 2], [0, 1, 2, 1]]
        self.assertTrue(are_spares(team, one, silent=2) and are_spares(team, other, silent=2))
        self.assertEqual((blocks_in_all(one), blocks_in_all(other)), (6, 6))
        self.assertEqual(least_spares(team, silent=2), one)
        self.assertEqual(least_of(team, useful_images(team), 2, 0), one)

    def test_written_out(self):
        self.assertEqual(least_spares(COUNTS), [])
        self.assertEqual(least_spares(COUNTS, silent=1), [[0, 1, 1, 0]])
        self.assertEqual(least_spares(team=COUNTS, silent=0, wrong=1), [[0, 1, 1, 0], [0, 1, 2, 3]])
        self.assertEqual(least_spares(Team([A2]), silent=5), [[0, 1]] * 5)
        self.assertEqual(least_spares(Team([A2]), silent=1, wrong=2), [[0, 1]] * 5)

    def test_a_need_of_0_comes_before_each_too_many(self):
        for team in (COUNTS, Team([A2] * 6), U301, WIDE, Team([STAY] * 6)):
            self.assertEqual(least_spares(team), [])
        self.assertEqual(least_spares(Team([A2] * 6), silent=5), [])
        self.assertEqual(least_spares(Team([STAY] * 6), silent=MOST, wrong=MOST), [])

    def test_wrong_counts(self):
        for team in (COUNTS, Team([STAY]), Team([A2] * 6), WIDE):
            for value in WRONG_COUNTS:
                with self.subTest(value, team=team):
                    self.gives(InvalidCount, value, least_spares, team, silent=value)
                    self.gives(InvalidCount, value, least_spares, team, wrong=value)
                    self.gives(InvalidCount, value, least_spares, team, silent=value, wrong=-9)
                    self.gives(InvalidCount, value, least_spares, team, silent=MOST, wrong=value)

    def test_too_many_machines(self):
        self.assertEqual(len(least_spares(COUNTS, silent=4)), 4)
        self.too_many(6, least_spares, COUNTS, silent=5)
        self.too_many(6, least_spares, COUNTS, wrong=3)
        self.too_many(6, least_spares, COUNTS, silent=MOST, wrong=MOST)
        self.too_many(6, least_spares, Team([A2] * 6), silent=6)
        # There are too many useful images and too many lists, but this is listed first.
        self.too_many(6, least_spares, U301, silent=5)
        self.too_many(6, least_spares, WIDE, silent=5)
        self.too_many(6, least_spares, U25, silent=5)

    def test_too_many_images(self):
        self.assertEqual(len(least_spares(U300, silent=1)), 1)
        self.too_many(300, least_spares, U301, silent=1)
        # There are too many lists as well, but this is listed first.
        self.too_many(300, least_spares, U301, silent=2)
        self.too_many(20000, least_spares, U300, silent=2)

    def test_too_many_lists(self):
        for team, size, silent in ((U24, 24, 4), (U48, 48, 3), (U199, 199, 2)):
            self.assertEqual((len(useful(team)), need(team, silent=silent)), (size, silent))
            self.assertTrue(spares_hold(team, least_spares(team, silent=silent), silent, 0))
            self.assertEqual(len(least_spares(team, silent=silent)), silent)
        for team, size, silent in ((U25, 25, 4), (U49, 49, 3), (U200, 200, 2)):
            self.assertEqual((len(useful(team)), need(team, silent=silent)), (size, silent))
            self.too_many(20000, least_spares, team, silent=silent)
            self.assertEqual(len(least_spares(team, silent=silent - 1)), silent - 1)

    def test_counts_are_passed_by_name(self):
        with self.assertRaises(TypeError):
            least_spares(COUNTS, 1)

    def test_returned_lists_are_new(self):
        made = least_spares(Team([A2]), silent=2)
        made[0].append(7)
        self.assertEqual(made, [[0, 1, 7], [0, 1]])
        self.assertEqual(least_spares(Team([A2]), silent=2), [[0, 1], [0, 1]])


class AreSpares(Case):
    def test_all_lists_of_images(self):
        for team in (COUNTS, Team([FALL]), Team([A2, B2, R2]), Team([STAY]), Team([A3, A3, A3]), Team([A2, A2, B2])):
            found = all_images(team.joint())
            for many in range(4):
                for value in product(found, repeat=many):
                    for silent, wrong in ASKED:
                        right = spares_hold(team, value, silent, wrong)
                        self.assertIs(are_spares(team, list(value), silent=silent, wrong=wrong), right)
                        self.assertIs(are_spares(team, tuple(tuple(blocks) for blocks in value), silent=silent, wrong=wrong),
                                      right)

    def test_least_spares_in_any_order_and_one_left_out(self):
        for team in SMALL:
            for silent, wrong in ASKED:
                many = need(team, silent=silent, wrong=wrong)
                if len(team) + many <= 6:
                    found = least_spares(team, silent=silent, wrong=wrong)
                    self.assertIs(are_spares(team, found, silent=silent, wrong=wrong), True)
                    self.assertIs(are_spares(team, found[::-1], silent=silent, wrong=wrong), True)
                    self.assertIs(are_spares(team, found + found, silent=silent, wrong=wrong), True)
                    if many > 0:
                        self.assertIs(are_spares(team, found[1:], silent=silent, wrong=wrong), False)

    def test_bent_lists(self):
        found = least_spares(COUNTS, wrong=1)
        self.assertEqual(found, [[0, 1, 1, 0], [0, 1, 2, 3]])
        for value in ([[0, 1, 1, 0], [0, 1, 1, 0]], [[0, 1, 1, 0], [0, 1, 2, 2]], [[0, 1, 1, 0], [0, 1, 2, 3, 4]],
                      [[0, 1, 1, 0], [0, 1, 2]], [[0, 1, 1, False], [0, 1, 2, 3]], [[0, True, 1, 0], [0, 1, 2, 3]],
                      [[0, 1, 1, 0], [1, 0, 2, 3]], [[0, 1, 1, 0], None], [[0, 1, 1, 0], "0123"], [[0, 1, 1, 0], 0],
                      [[0, 1, 1, 0], [0, 1, 2, 3], []], [[0, 1, 1, 0], [0, 1, 2, 3], [0, 0, 1, 2]],
                      [[0, 1, 1, 0], [0, 1, 2, 3], None], [[0, 1, 1, 0], [[0, 1, 2, 3]]], [[[0, 1, 1, 0], [0, 1, 2, 3]]],
                      [0, 1, 1, 0], [[0, 1, 1, 0]], [[0, 1, 2, 3]], []):
            with self.subTest(value):
                self.assertIs(are_spares(COUNTS, value, wrong=1), False)
        self.assertIs(are_spares(COUNTS, found + [[0, 0, 0, 0]] * 398, wrong=1), True)
        self.assertIs(are_spares(COUNTS, [[0, 1, 1, 0]] * 200 + [[0, 1, 2, 3]] * 200, wrong=100), True)
        self.assertIs(are_spares(COUNTS, [[0, 1, 1, 0]] * 200 + [[0, 1, 2, 3]] * 200, wrong=101), False)

    def test_values_of_every_kind(self):
        for value in ODD_VALUES:
            for silent in (0, 1):
                with self.subTest(value, silent=silent):
                    self.assertIs(are_spares(COUNTS, value, silent=silent), False)

    def test_no_images_are_enough_if_the_need_is_0(self):
        for team in SMALL_TEAMS:
            for value in ([], ()):
                self.assertIs(are_spares(team, value), True)
                self.assertIs(are_spares(team, value, silent=1), is_safe(team, silent=1))
        self.assertIs(are_spares(COUNTS, [[0, 0, 0, 0]]), True)
        self.assertIs(are_spares(COUNTS, [[0, 0, 1, 2]]), False)

    def test_one_joint_state(self):
        for value, right in (([], True), ([[0]], True), (((0,), [0]), True), ([[1]], False), ([0], False), ([[False]], False)):
            self.assertIs(are_spares(Team([STAY]), value, silent=MOST, wrong=MOST), right)

    def test_wrong_counts(self):
        for value in WRONG_COUNTS:
            with self.subTest(value):
                self.gives(InvalidCount, value, are_spares, COUNTS, [], silent=value)
                self.gives(InvalidCount, value, are_spares, COUNTS, None, wrong=value)
                self.gives(InvalidCount, value, are_spares, COUNTS, [[0]], silent=value, wrong=-9)
                self.gives(InvalidCount, value, are_spares, Team([STAY]), [], silent=MOST, wrong=value)
        self.assertIs(are_spares(COUNTS, [], silent=MOST, wrong=MOST), False)

    def test_the_value_stays_as_it_is(self):
        value = [[0, 1, 1, 0], (0, 1, 2, 3)]
        are_spares(team=COUNTS, value=value, silent=0, wrong=1)
        self.assertEqual(value, [[0, 1, 1, 0], (0, 1, 2, 3)])


class WithSpares(Case):
    def test_quotients_stand_behind_the_machines(self):
        joint = COUNTS.joint()
        made = with_spares(COUNTS, [[0, 1, 1, 0], (0, 1, 2, 3)])
        self.assertEqual(made, Team([A2, B2, Machine("ab", [[1, 1], [0, 0]]), joint]))
        self.assertEqual(with_spares(team=COUNTS, blocks=()), COUNTS)
        self.assertEqual(with_spares(COUNTS, [[0, 0, 0, 0]]), Team([A2, B2, STAY]))
        self.assertEqual(COUNTS.machines(), [A2, B2])

    def test_each_further_machine_tells_the_block(self):
        for team in SMALL:
            if len(team) < 6:
                for blocks in all_images(team.joint()):
                    states = with_spares(team, [blocks]).joint_states()
                    self.assertEqual(states, [(*old, block) for old, block in zip(team.joint_states(), blocks)])

    def test_a_list_of_images_is_a_spare_list_if_the_team_is_safe_with_it(self):
        for team in (COUNTS, Team([FALL]), Team([A2, B2, R2]), Team([A2, A2, B2])):
            for value in product(all_images(team.joint()), repeat=2):
                for silent, wrong in ASKED:
                    self.assertIs(are_spares(team, value, silent=silent, wrong=wrong),
                                  is_safe(with_spares(team, value), silent=silent, wrong=wrong))

    def test_the_least_spares_make_a_team_safe(self):
        for team in SMALL_TEAMS:
            for silent, wrong in ASKED:
                if len(team) + need(team, silent=silent, wrong=wrong) <= 6:
                    made = with_spares(team, least_spares(team, silent=silent, wrong=wrong))
                    self.assertTrue(is_safe(made, silent=silent, wrong=wrong))
                    self.assertEqual(need(made, silent=silent, wrong=wrong), 0)

    def test_what_is_no_image(self):
        for blocks in partitions(4):
            if not stays_together(COUNTS.joint(), blocks):
                self.fails(InvalidPartition, with_spares, COUNTS, [blocks])
        for value in (*ODD_VALUES, [0, 1, 1], [0, 1, 1, False], "0110", 0):
            with self.subTest(value):
                self.fails(InvalidPartition, with_spares, COUNTS, [value])
                self.fails(InvalidPartition, with_spares, COUNTS, ([0, 1, 1, 0], value))
                # Listed first, so raised first, also if it stands last.
                self.fails(InvalidPartition, with_spares, COUNTS, [[0, 1, 1, 0]] * 7 + [value])
        for value in (None, 0, True, "0110", ""):
            self.fails(InvalidPartition, with_spares, COUNTS, value)

    def test_too_many_machines(self):
        self.assertEqual(len(with_spares(COUNTS, [[0, 1, 1, 0]] * 4)), 6)
        self.too_many(6, with_spares, COUNTS, [[0, 1, 1, 0]] * 5)
        self.too_many(6, with_spares, COUNTS, [[0, 0, 0, 0]] * 400)

    def test_24_joint_states(self):
        team = Team([Machine.ring("a", 24)])
        self.assertEqual(len(with_spares(team, [list(range(24))] * 5).joint_states()), 24)

    def test_arguments_stay_as_they_are(self):
        value = [[0, 1, 1, 0], [0, 1, 2, 3]]
        made = with_spares(COUNTS, value)
        self.assertEqual(value, [[0, 1, 1, 0], [0, 1, 2, 3]])
        value[0][1] = 0
        self.assertEqual(made, Team([A2, B2, Machine("ab", [[1, 1], [0, 0]]), COUNTS.joint()]))


class Facts(Case):
    def test_fewer_machines_than_the_need_are_never_enough(self):
        drawn = machines("ab", 2)[::3] + machines("ab", 3)[::101] + [A2, B2, R2, A3, FALL, COUNTS.joint()]
        for team in (COUNTS, Team([A3]), Team([A2, B2, R2]), Team([FALL])):
            for silent, wrong in ((1, 0), (2, 0), (1, 1), (3, 0)):
                many = need(team, silent=silent, wrong=wrong) - 1
                for more in list(combinations_with_replacement(drawn, many))[:400] if 0 <= many < 3 else []:
                    made = team.machines() + list(more)
                    if len(made) <= 6 and small_enough(made):
                        self.assertFalse(is_safe(Team(made), silent=silent, wrong=wrong))

    def test_what_just_so_many_machines_tell(self):
        found = 0
        for machine in machines("ab", 2) + machines("ab", 3)[::5]:
            if small_enough([A2, B2, machine]):
                team = COUNTS.with_machines(machine)
                if is_safe(team, silent=1):
                    found += 1
                    told = [states[2] for states in team.joint_states()]
                    # So many joint states as before: the further state depends on them.
                    self.assertEqual([states[:2] for states in team.joint_states()], COUNTS.joint_states())
                    self.assertIn([[told.index(state) for state in told].index(told.index(state)) for state in told],
                                  [[blocks.index(block) for block in blocks] for blocks in useful(COUNTS)])
        self.assertGreater(found, 1)


def small_enough(made):
    """Whether machines have at most 24 joint states."""
    seen = {(0,) * len(made)}
    todo = list(seen)
    while todo and len(seen) < 25:
        states = todo.pop()
        for goals in zip(*[machine.moves()[state] for machine, state in zip(made, states)]):
            if goals not in seen:
                seen.add(goals)
                todo.append(goals)
    return len(seen) < 25


if __name__ == "__main__":
    unittest.main()
