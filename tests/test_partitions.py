import unittest

from helpers import (COUNTS, FALL, ODD_VALUES, Case, all_images, partitions, same_blocks, small_machines, stays_together)

from othersknow.errors import InvalidPartition, InvalidState
from othersknow.machines import Machine
from othersknow.partitions import closure, finest, is_image, is_partition, joined, met, quotient
from othersknow.teams import Team

MACHINES = small_machines()
JOINT = COUNTS.joint()
NO_STATES = (4, -1, 10 ** 31, True, False, None, "0", (0, 0), (0,), [0], [])
NO_PARTITIONS = [[1, 0, 0, 0], [0, 2, 1, 0], [0, 0, 2, 1], [0, 1, 0], [0, 1, 0, 1, 0], [0, 0, 0, -1], [0, 1, 1, 3],
                 [0, True, 1, 0], [False, 1, 1, 0], [0, 1, 1, False], [0, 1, None, 0], [0, "1", 1, 0], [0, [1], 1, 0],
                 [[0], 1, 1, 0], [0, (1,), 1, 0], [0, 1, 1, 10 ** 31], [1, 1, 1, 1], [-1, 0, 0, 0], "0110", "aaaa", [], (),
                 [(0, 1, 1, 0)], [[0, 1, 1, 0]], (1, 0, 0, 0), (0, 1, 0), (0, True, 1, 0), *ODD_VALUES]


def coarsens(blocks, finer):
    """Whether states that are in one block of a partition are so in another one, too."""
    return same_blocks(finer) <= same_blocks(blocks)


def closure_of(machine, pairs):
    """The image with the most blocks that joins the states of pairs, found among all images."""
    found = [blocks for blocks in all_images(machine) if pairs <= same_blocks(blocks)]
    most = max(max(blocks) for blocks in found)
    best = [blocks for blocks in found if max(blocks) == most]
    assert len(best) == 1
    return best[0]


class Partitions(Case):
    def test_partitions_among_all_lists(self):
        machine = Machine.ring("a", 3)
        lists = [[one, two, three] for one in range(-1, 4) for two in range(-1, 4) for three in range(-1, 4)]
        found = [value for value in lists if is_partition(machine, value)]
        self.assertEqual(found, [[0, 0, 0], [0, 0, 1], [0, 1, 0], [0, 1, 1], [0, 1, 2]])
        self.assertEqual([value for value in lists if is_partition(machine, tuple(value))], found)

    def test_partitions_of_all_small_machines(self):
        for machine in MACHINES:
            for blocks in partitions(machine.states):
                self.assertIs(is_partition(machine, blocks), True)
                self.assertIs(is_partition(machine=machine, value=tuple(blocks)), True)

    def test_other_values_are_no_partitions(self):
        for value in NO_PARTITIONS:
            with self.subTest(value):
                self.assertIs(is_partition(JOINT, value), False)
                self.assertIs(is_image(JOINT, value), False)

    def test_one_state(self):
        machine = Machine("ab", [[0, 0]])
        for value in ([0], (0,)):
            self.assertIs(is_partition(machine, value), True)
            self.assertIs(is_image(machine, value), True)
        for value in ([1], [False], [0, 0], [], (), 0, None, "0", [[0]], [None]):
            self.assertIs(is_partition(machine, value), False)
            self.assertIs(is_image(machine, value), False)

    def test_24_states(self):
        machine = Machine.ring("a", 24)
        self.assertTrue(is_partition(machine, list(range(24))))
        self.assertFalse(is_partition(machine, list(range(25))))
        self.assertFalse(is_partition(machine, list(range(23))))
        self.assertTrue(is_image(machine, [at % 8 for at in range(24)]))
        self.assertFalse(is_image(machine, [at % 9 for at in range(24)]))

    def test_finest(self):
        for machine in MACHINES:
            self.assertEqual(finest(machine), list(range(machine.states)))
        finest(JOINT).append(4)
        self.assertEqual(finest(machine=JOINT), [0, 1, 2, 3])


class Images(Case):
    def test_images_of_all_small_machines(self):
        for machine in MACHINES:
            for blocks in partitions(machine.states):
                self.assertIs(is_image(machine, blocks), stays_together(machine, blocks))
                self.assertIs(is_image(machine=machine, value=tuple(blocks)), stays_together(machine, blocks))

    def test_written_out(self):
        self.assertEqual([blocks for blocks in partitions(4) if is_image(JOINT, blocks)],
                         [[0, 0, 0, 0], [0, 0, 1, 1], [0, 1, 0, 1], [0, 1, 1, 0], [0, 1, 2, 3]])

    def test_states_that_are_not_reachable_count(self):
        machine = Machine("a", [[0], [0], [1]])
        self.assertTrue(is_image(machine, [0, 0, 1]))
        self.assertFalse(is_image(machine, [0, 1, 1]) or is_image(machine, (0, 1, 0)))


class Closures(Case):
    def test_closures_of_all_partitions(self):
        for machine in MACHINES:
            if machine.states < 6:
                for blocks in partitions(machine.states):
                    expected = closure_of(machine, same_blocks(blocks))
                    self.assertEqual(closure(machine, blocks), expected)
                    self.assertEqual(closure(machine, tuple(blocks)), expected)

    def test_an_image_is_its_closure(self):
        for machine in MACHINES:
            for blocks in all_images(machine):
                self.assertEqual(closure(machine, blocks), blocks)

    def test_joined_of_all_partitions(self):
        for machine in MACHINES[::3]:
            if machine.states < 5:
                for blocks in partitions(machine.states):
                    for one in range(machine.states):
                        for other in range(machine.states):
                            expected = closure_of(machine, same_blocks(blocks) | {(one, other)})
                            self.assertEqual(joined(machine, blocks, one, other), expected)

    def test_written_out(self):
        self.assertEqual(closure(JOINT, [0, 1, 1, 2]), [0, 1, 1, 0])
        self.assertEqual(closure(machine=JOINT, blocks=[0, 0, 1, 2]), [0, 0, 1, 1])
        self.assertEqual(joined(JOINT, [0, 1, 1, 2], 0, 1), [0, 0, 0, 0])
        self.assertEqual(joined(machine=JOINT, blocks=(0, 1, 2, 3), one=2, other=0), [0, 1, 0, 1])
        self.assertEqual(joined(JOINT, [0, 1, 2, 2], 1, 1), [0, 0, 1, 1])
        chain = Machine("a", [[1], [2], [3], [4], [4]])
        self.assertEqual(joined(chain, [0, 1, 2, 3, 4], 0, 3), [0, 0, 0, 0, 0])
        self.assertEqual(joined(chain, [0, 1, 2, 3, 4], 4, 2), [0, 1, 2, 2, 2])

    def test_24_states(self):
        ring = Machine.ring("ab", 24)
        self.assertEqual(joined(ring, finest(ring), 23, 5), [at % 6 for at in range(24)])
        self.assertEqual(joined(ring, finest(ring), 0, 7), [0] * 24)
        self.assertEqual(joined(ring, [at % 12 for at in range(24)], 3, 11), [at % 4 for at in range(24)])
        self.assertEqual(joined(ring, [*range(12), *range(12, 21), 9, 10, 11], 0, 8), [at % 4 for at in range(24)])

    def test_met_of_all_partitions(self):
        for size in range(1, 6):
            machine = Machine.ring("a", size)
            for one in partitions(size):
                for other in partitions(size):
                    blocks = met(machine, one, other)
                    self.assertTrue(is_partition(machine, blocks))
                    self.assertEqual(same_blocks(blocks), same_blocks(one) & same_blocks(other))
        self.assertEqual(met(machine=JOINT, one=(0, 0, 1, 1), other=[0, 1, 0, 0]), [0, 1, 2, 2])

    def test_met_need_be_no_image_and_is_one_if_both_are(self):
        self.assertEqual(met(JOINT, [0, 0, 0, 1], [0, 0, 1, 1]), [0, 0, 1, 2])
        for machine in MACHINES:
            for one in all_images(machine):
                for other in all_images(machine):
                    self.assertTrue(is_image(machine, met(machine, one, other)))


class Quotients(Case):
    def test_quotients_of_all_images(self):
        for machine in MACHINES:
            moves = machine.moves()
            for blocks in all_images(machine):
                made = quotient(machine, blocks)
                self.assertEqual((made.alphabet, made.states), (machine.alphabet, max(blocks) + 1))
                for state, row in enumerate(moves):
                    self.assertEqual(made.moves()[blocks[state]], [blocks[goal] for goal in row])
                self.assertEqual(quotient(machine, tuple(blocks)), made)

    def test_written_out(self):
        self.assertEqual(quotient(JOINT, [0, 1, 1, 0]), Machine("ab", [[1, 1], [0, 0]]))
        self.assertEqual(quotient(machine=JOINT, blocks=[0, 1, 2, 3]), JOINT)
        self.assertEqual(quotient(JOINT, (0, 0, 0, 0)), Machine("ab", [[0, 0]]))

    def test_what_is_no_image(self):
        for blocks in partitions(4):
            if not stays_together(JOINT, blocks):
                self.fails(InvalidPartition, quotient, JOINT, blocks)
                self.fails(InvalidPartition, quotient, JOINT, tuple(blocks))
                # A partition that is no image may be closed and met.
                closure(JOINT, blocks)
                met(JOINT, blocks, blocks)


class Wrong(Case):
    def test_what_is_no_partition(self):
        for value in NO_PARTITIONS:
            with self.subTest(value):
                self.fails(InvalidPartition, closure, JOINT, value)
                self.fails(InvalidPartition, quotient, JOINT, value)
                self.fails(InvalidPartition, met, JOINT, value, [0, 0, 0, 0])
                self.fails(InvalidPartition, met, JOINT, [0, 0, 0, 0], value)
                self.fails(InvalidPartition, met, JOINT, value, value)
                self.fails(InvalidPartition, joined, JOINT, value, 0, 1)
                # Listed first, so raised first.
                self.fails(InvalidPartition, joined, JOINT, value, 9, None)

    def test_what_is_no_state(self):
        for value in NO_STATES:
            with self.subTest(value):
                self.gives(InvalidState, value, joined, JOINT, [0, 1, 1, 2], value, 0)
                self.gives(InvalidState, value, joined, JOINT, [0, 1, 1, 2], 3, value)
                self.gives(InvalidState, value, joined, JOINT, [0, 0, 0, 0], value, 77)
                self.gives(InvalidState, 77, joined, JOINT, [0, 0, 0, 0], 77, value)

    def test_another_machine_has_other_partitions(self):
        self.fails(InvalidPartition, closure, FALL, [0, 1, 1, 0])
        self.fails(InvalidPartition, closure, Team([FALL]).joint(), [0, 1, 1, 0, 0])

    def test_arguments_stay_and_results_are_new(self):
        blocks = [0, 1, 1, 2]
        other = [0, 0, 0, 1]
        for made in (closure(JOINT, blocks), joined(JOINT, blocks, 0, 3), met(JOINT, blocks, other), met(JOINT, blocks, blocks)):
            made.append(9)
            made[0] = 7
        self.assertEqual((blocks, other), ([0, 1, 1, 2], [0, 0, 0, 1]))
        image = [0, 1, 1, 0]
        closure(JOINT, image).append(9)
        self.assertEqual(image, [0, 1, 1, 0])
        made = quotient(JOINT, image)
        image[0] = 1
        self.assertEqual(made, Machine("ab", [[1, 1], [0, 0]]))


if __name__ == "__main__":
    unittest.main()
