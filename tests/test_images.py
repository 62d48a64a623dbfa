import unittest
from itertools import combinations, islice

from helpers import COUNTS, ODD_VALUES, Case, all_images, partitions, same_blocks, small_machines

from othersknow.errors import InvalidPairs, InvalidPartition
from othersknow.machines import Machine
from othersknow.partitions import coarsest, image_count, images, is_coarsest, joined

MACHINES = small_machines()
JOINT = COUNTS.joint()
# Each of its partitions is an image, so it has more of them than can be listed.
STILL = Machine("ab", [[state, state] for state in range(24)])
ALL_PAIRS = list(combinations(range(24), 2))
NO_PAIRS = [[(0, 4)], [(4, 0)], [(-1, 0)], [(0, 1, 2)], [(0,)], [()], [[0, 1]], [(0, 1), [1, 2]], ((0, 1), [1, 2]),
            [(True, 0)], [(0, False)], [(0, None)], [("0", "1")], ["01"], "01", "ab", 0, 1, None, True, False, (0, 1), [0, 1],
            [((0,), 1)], [([0], 1)], [None], [(0, 1), None], [(0, 10 ** 31)], [((0, 1),)], [[(0, 1)]], [(0, 1), (0, 4)]]


def some_pairs(machine):
    """Lists of no pairs, of each pair, and of several ones."""
    pairs = [(one, other) for one in range(machine.states) for other in range(machine.states) if one != other]
    yield []
    for pair in pairs:
        yield [pair]
    yield pairs
    yield from ([one, other] for one, other in zip(pairs, pairs[3:]))
    yield from ([one, other, one] for one, other in zip(pairs, pairs[4::2]))


# Moves of machines with one letter, pairs, and how many images put them apart.
BOUNDS = [([[0], [0], [1], [3], [1], [5], [1], [7]], [], 300),
          ([[0], [8], [8], [3], [3], [4], [5], [6], [8], [9]], [(3, 6)], 300),
          ([[3], [1], [2], [3], [5], [4], [5], [6], [5]], [(0, 1)], 301),
          ([[5], [0], [1], [1], [7], [6], [5], [0], [8], [9]], [], 301)]


def separating(blocks, pairs):
    return all(blocks[one] != blocks[other] for one, other in pairs)


def coarsest_of(found):
    """Those of all images that put some pairs apart of which no other one joins more."""
    return [blocks for blocks in found
            if not any(same_blocks(blocks) < same_blocks(other) for other in found)]


class Images(Case):
    def test_all_images_of_small_machines(self):
        for machine in MACHINES:
            self.assertEqual(list(images(machine)), all_images(machine))
            self.assertEqual(list(images(machine=machine, apart=())), all_images(machine))

    def test_images_that_put_pairs_apart(self):
        for machine in MACHINES[::3]:
            for pairs in some_pairs(machine):
                self.assertEqual(list(images(machine, apart=pairs)), all_images(machine, pairs))
                self.assertEqual(list(images(machine, apart=tuple(pairs))), all_images(machine, pairs))

    def test_a_pair_of_equal_states(self):
        for machine in MACHINES:
            self.assertEqual(list(images(machine, apart=[(0, 0)])), [])
            self.assertEqual(image_count(machine, apart=[(0, 0)]), 0)
            self.assertEqual(coarsest(machine, apart=[(0, 0)]), [])
        self.assertEqual(list(images(JOINT, apart=[(0, 1), (3, 3)])), [])
        self.assertEqual(list(images(STILL, apart=[(0, 1), (23, 23)])), [])

    def test_written_out(self):
        self.assertEqual(list(images(JOINT)), [[0, 0, 0, 0], [0, 0, 1, 1], [0, 1, 0, 1], [0, 1, 1, 0], [0, 1, 2, 3]])
        self.assertEqual(list(images(JOINT, apart=[(1, 0)])), [[0, 1, 0, 1], [0, 1, 1, 0], [0, 1, 2, 3]])
        self.assertEqual(list(images(Machine("ab", [[0, 0]]))), [[0]])
        ring = Machine.ring("a", 24)
        sizes = [size for size in range(1, 25) if 24 % size == 0]
        self.assertEqual(list(images(ring)), sorted([at % size for at in range(24)] for size in sizes))

    def test_apart_is_passed_by_name(self):
        for call in (images, image_count, coarsest):
            with self.assertRaises(TypeError):
                call(JOINT, [(0, 1)])

    def test_items_are_asked_for_one_by_one(self):
        made = images(JOINT)
        self.assertIs(iter(made), made)
        self.assertEqual([next(made) for turn in range(5)], all_images(JOINT))
        with self.assertRaises(StopIteration):
            next(made)

    def test_two_generators_at_once(self):
        self.assertEqual(list(zip(images(JOINT), images(JOINT))), [(blocks, blocks) for blocks in all_images(JOINT)])
        one, other = images(STILL), images(STILL, apart=[(22, 23)])
        self.assertEqual([next(one), next(other), next(one)], [[0] * 24, [0] * 23 + [1], [0] * 23 + [1]])

    def test_one_generator_within_another(self):
        found = [(one, other) for one in images(JOINT) for other in images(JOINT)]
        self.assertEqual(found, [(one, other) for one in all_images(JOINT) for other in all_images(JOINT)])

    def test_changing_a_list_does_not_change_later_ones(self):
        for machine in (JOINT, Machine("a", [[at] for at in range(4)])):
            found = []
            for blocks in images(machine):
                found.append(list(blocks))
                blocks[:] = [7]
            self.assertEqual(found, all_images(machine))

    def test_later_changes_of_the_pairs_do_nothing(self):
        pairs = [(0, 1)]
        made = images(JOINT, apart=pairs)
        first = next(made)
        pairs.append((2, 0))
        pairs[0] = None
        self.assertEqual([first, *made], [[0, 1, 0, 1], [0, 1, 1, 0], [0, 1, 2, 3]])
        pairs = [(0, 1)]
        list(images(JOINT, apart=pairs))
        self.assertEqual(pairs, [(0, 1)])

    def test_errors_are_raised_when_the_first_item_is_asked_for(self):
        for value in NO_PAIRS:
            with self.subTest(value):
                made = images(JOINT, apart=value)
                self.fails(InvalidPairs, next, made)
                self.fails(InvalidPairs, list, images(JOINT, apart=value))

    def test_nothing_happens_ahead_of_the_first_item(self):
        pairs = []
        made = images(JOINT, apart=pairs)
        pairs.append((0, 1))
        self.assertEqual(next(made), [0, 1, 0, 1])


class Counting(Case):
    def test_counts_of_small_machines(self):
        for machine in MACHINES:
            self.assertEqual(image_count(machine), len(all_images(machine)))
            for pairs in list(some_pairs(machine))[::5]:
                self.assertEqual(image_count(machine, apart=pairs), len(all_images(machine, pairs)))
        self.assertEqual(image_count(machine=JOINT, apart=[(0, 1)]), 3)

    def test_just_300_and_beyond(self):
        for moves, apart, many in BOUNDS:
            machine = Machine("a", moves)
            found = list(images(machine, apart=apart))
            self.assertEqual(len(found), many)
            if many == 300:
                self.assertEqual(image_count(machine, apart=apart), 300)
                self.assertEqual(coarsest(machine, apart=apart), coarsest_of(found))
            else:
                self.too_many(300, image_count, machine, apart=apart)
                self.too_many(300, coarsest, machine, apart=apart)

    def test_pairs_may_leave_few_images_of_many(self):
        seven = Machine("a", [[at] for at in range(7)])
        self.assertEqual(len(list(images(seven))), 877)
        self.too_many(300, image_count, seven)
        pairs = [(one, other) for one, other in combinations(range(7), 2) if other != one + 1]
        self.assertEqual(image_count(seven, apart=pairs), len(all_images(seven, pairs)))
        self.assertEqual(coarsest(seven, apart=pairs), coarsest_of(all_images(seven, pairs)))

    def test_wrong_pairs(self):
        for value in NO_PAIRS:
            with self.subTest(value):
                self.fails(InvalidPairs, image_count, JOINT, apart=value)
                self.fails(InvalidPairs, coarsest, JOINT, apart=value)
                self.fails(InvalidPairs, is_coarsest, JOINT, [0, 1, 1, 0], apart=value)
        # There are too many images, but wrong pairs are listed first.
        self.fails(InvalidPairs, image_count, STILL, apart=[(0, 24)])
        self.fails(InvalidPairs, coarsest, STILL, apart=[[0, 1]])


class Still(Case):
    """A machine whose images can not be listed."""

    def test_the_first_images(self):
        self.assertEqual(list(islice(images(STILL), 5)), [[0] * 24, [0] * 23 + [1], [0] * 22 + [1, 0], [0] * 22 + [1, 1],
                                                          [0] * 22 + [1, 2]])
        # The partitions of eight states, behind sixteen states that are all in the first block.
        self.assertEqual(list(islice(images(STILL), 4000)), [[0] * 16 + blocks for blocks in partitions(8)][:4000])

    def test_the_first_images_that_put_pairs_apart(self):
        self.assertEqual(list(islice(images(STILL, apart=[(0, 23)]), 2)), [[0] * 23 + [1], [0] * 22 + [1, 1]])
        # Only neighbours may be in one block.
        pairs = [(one, other) for one, other in ALL_PAIRS if other - one > 1]
        halves = [at // 2 for at in range(24)]
        self.assertEqual(list(islice(images(STILL, apart=pairs), 4)),
                         [halves, halves[:22] + [11, 12], halves[:20] + [10, 11, 11, 12], halves[:20] + [10, 11, 12, 12]])

    def test_pairs_that_few_images_put_apart(self):
        self.assertEqual(list(images(STILL, apart=ALL_PAIRS)), [list(range(24))])
        self.assertEqual(image_count(STILL, apart=[(other, one) for one, other in ALL_PAIRS]), 1)
        pairs = [pair for pair in ALL_PAIRS if pair not in ((0, 23), (22, 23))]
        ends = [[*range(23), 0], [*range(23), 22], list(range(24))]
        self.assertEqual(list(images(STILL, apart=pairs)), ends)
        self.assertEqual(image_count(STILL, apart=pairs), 3)
        self.assertEqual(coarsest(STILL, apart=pairs), ends[:2])
        self.assertEqual(image_count(STILL, apart=[pair for pair in ALL_PAIRS if pair not in
                                                   [(at, at + 1) for at in range(0, 16, 2)]]), 256)

    def test_too_many(self):
        for apart in ([], [(0, 1)], [(22, 23)], [pair for pair in ALL_PAIRS if sum(pair) % 2 == 1],
                      [pair for pair in ALL_PAIRS if pair[1] - pair[0] < 12],
                      [pair for pair in ALL_PAIRS if pair not in [(at, at + 1) for at in range(0, 18, 2)]]):
            self.too_many(300, image_count, STILL, apart=apart)
            self.too_many(300, coarsest, STILL, apart=apart)

    def test_coarsest_of_it(self):
        self.assertTrue(is_coarsest(STILL, [0] * 24))
        self.assertFalse(is_coarsest(STILL, [0] * 23 + [1]))
        self.assertTrue(is_coarsest(STILL, [0] * 23 + [1], apart=[(3, 23)]))
        self.assertTrue(is_coarsest(STILL, list(range(24)), apart=ALL_PAIRS))


class Coarsest(Case):
    def test_against_all_images(self):
        for machine in MACHINES[::3]:
            for pairs in some_pairs(machine):
                found = all_images(machine, pairs)
                expected = coarsest_of(found)
                self.assertEqual(coarsest(machine, apart=pairs), expected)
                self.assertEqual(coarsest(machine=machine, apart=tuple(pairs)), expected)
                for blocks in all_images(machine):
                    self.assertIs(is_coarsest(machine, blocks, apart=pairs), blocks in expected)
                    self.assertIs(is_coarsest(machine, tuple(blocks), apart=tuple(pairs)), blocks in expected)

    def test_against_closures_of_joined_blocks(self):
        for machine in MACHINES[1::3]:
            for pairs in list(some_pairs(machine))[::4]:
                for blocks in all_images(machine):
                    closures = [joined(machine, blocks, one, other) for one, other in combinations(range(machine.states), 2)
                                if blocks[one] != blocks[other]]
                    best = separating(blocks, pairs) and not any(separating(fresh, pairs) for fresh in closures)
                    self.assertIs(is_coarsest(machine, blocks, apart=pairs), best)

    def test_written_out(self):
        self.assertEqual(coarsest(JOINT), [[0, 0, 0, 0]])
        self.assertEqual(coarsest(JOINT, apart=[(0, 1)]), [[0, 1, 0, 1], [0, 1, 1, 0]])
        self.assertEqual(coarsest(JOINT, apart=[(0, 1), (0, 2), (0, 3)]), [[0, 1, 2, 3]])
        self.assertIs(is_coarsest(JOINT, [0, 0, 0, 0]), True)
        self.assertIs(is_coarsest(machine=JOINT, blocks=[0, 1, 2, 3], apart=[(0, 1)]), False)
        self.assertIs(is_coarsest(JOINT, [0, 0, 1, 1], apart=[(0, 1)]), False)
        self.assertIs(is_coarsest(Machine("a", [[0]]), [0]), True)
        self.assertEqual(coarsest(Machine("a", [[0]])), [[0]])

    def test_a_pair_of_equal_states(self):
        for blocks in all_images(JOINT):
            self.assertIs(is_coarsest(JOINT, blocks, apart=[(2, 2)]), False)

    def test_what_is_no_image(self):
        for value in ([0, 0, 1, 2], [0, 1, 1, 1], (0, 0, 0, 1), [0, 1, 1, False], [0, 1, 1], [1, 0, 0, 1], *ODD_VALUES):
            with self.subTest(value):
                self.fails(InvalidPartition, is_coarsest, JOINT, value)
                # Listed first, so raised first.
                self.fails(InvalidPartition, is_coarsest, JOINT, value, apart=[(0, 4)])
                self.fails(InvalidPartition, is_coarsest, JOINT, value, apart=None)

    def test_arguments_stay_and_results_are_new(self):
        blocks = [0, 1, 1, 0]
        pairs = [(0, 1)]
        is_coarsest(JOINT, blocks, apart=pairs)
        made = coarsest(JOINT, apart=pairs)
        made[0].append(7)
        made.append(8)
        self.assertEqual((blocks, pairs), ([0, 1, 1, 0], [(0, 1)]))
        self.assertEqual(coarsest(JOINT, apart=pairs), [[0, 1, 0, 1], [0, 1, 1, 0]])


if __name__ == "__main__":
    unittest.main()
