"""What several tests share."""

import unittest
from itertools import combinations, product

from othersknow.errors import TooMany
from othersknow.machines import Machine
from othersknow.teams import Team

A2 = Machine.counter("ab", 2, letter="a")
B2 = Machine.counter("ab", 2, letter="b")
R2 = Machine.ring("ab", 2)
A3 = Machine.counter("ab", 3, letter="a")
STAY = Machine("ab", [[0, 0]])
FALL = Machine("ab", [[1, 2], [1, 3], [3, 2], [3, 3], [0, 0]])
COUNTS = Team([A2, B2])

# Small enough to look at all their reports, partitions and lists of images.
SMALL_TEAMS = [Team([A2]), COUNTS, Team([R2, A3]), Team([A2, B2, R2]), Team([STAY]), Team([STAY, STAY]),
               Team([FALL]), Team([FALL, FALL, FALL]), Team([A2, A2]), Team([A3, A3, A3]), Team([A2, A2, B2]),
               Team([A2, B2, R2, R2]), Team([Machine("a", [[1], [1]]), Machine("a", [[1], [0]])]),
               Team([A2, A2, A2, A2, A2])]

MOST = 10 ** 30
# No numbers from 0 to 10 ** 30.
WRONG_COUNTS = [-1, MOST + 1, -MOST, 10 ** 31 - 1, True, False, None, "0", "", (0,), [0], (), []]

# A machine falls through its states, two rings never lose a state, and a ring of many states has one letter that leads
# elsewhere, so that "k steps behind" goes on changing for long.
LINE = Machine("a", [[1], [2], [3], [4], [4]])
RINGS = Machine("ab", [[1, 3], [2, 2], [1, 1], [4, 4], [5, 5], [3, 3]])


def bent_ring(size):
    """A ring in which the second letter of the last state leads to the state 1."""
    return Machine("ab", [[state + 1, state + 1] for state in range(size - 1)] + [[0, 1]])


# Their states are of use if letters are only counted, or heal.
COUNTED_TEAMS = [*SMALL_TEAMS, Team([LINE]), Team([LINE, LINE]), Team([RINGS]), Team([bent_ring(4)]), Team([bent_ring(7)]),
                 Team([Machine.ring("ab", 3), A2]), Team([Machine.ring("a", 4), Machine.ring("a", 6)]),
                 Team([bent_ring(5), Machine("ab", [[0, 1], [1, 0]])]), Team([Machine("abc", [[1, 2, 0], [2, 0, 1], [0, 1, 2]])]),
                 Team([Machine("a", [[1], [1]]), Machine("a", [[1], [0]]), LINE]),
                 Team([Machine("ab", [[1, 2], [1, 1], [2, 2]]), A2]), Team([FALL, A2])]

# Nested as deep as a value may be.
DEEP_LIST = []
DEEP_TUPLE = ()
for turn in range(59):
    DEEP_LIST = [DEEP_LIST]
    DEEP_TUPLE = (DEEP_TUPLE,)

# None of these is a partition of two or more states.
ODD_VALUES = [None, True, False, 0, 1, -1, 10 ** 31, "", "0", "01", "ab", [True], [False], (False,), [None], ["0"],
              [[0]], [(0,)], ((0,),), ([0],), [-1], [1], [10 ** 31], [0] * 25, [0] * 400, (0,) * 400, [[]], [()],
              DEEP_LIST, DEEP_TUPLE, [0, [0]], (0, None)]


def words(alphabet, most):
    """All words of up to so many letters, shorter words first."""
    return ["".join(letters) for many in range(most + 1) for letters in product(alphabet, repeat=many)]


def partitions(size):
    """All partitions of so many states, in ascending order."""
    found = [[0]]
    for turn in range(size - 1):
        found = [[*blocks, block] for blocks in found for block in range(max(blocks) + 2)]
    return found


def machines(alphabet, size):
    """All machines with an alphabet and so many states."""
    rows = list(product(range(size), repeat=len(alphabet)))
    return [Machine(alphabet, moves) for moves in product(rows, repeat=size)]


def small_machines():
    """All machines with up to three or four states, and a few larger ones."""
    made = [machine for alphabet, size in (("a", 1), ("a", 2), ("a", 3), ("ab", 2)) for machine in machines(alphabet, size)]
    # Of the many others each seventh or eleventh one.
    made += machines("a", 4)[::7] + machines("ab", 3)[::11]
    made += [FALL, COUNTS.joint(), Team([R2, A3]).joint(), Machine.ring("ab", 6), Machine("abc", [[0, 0, 0]]),
             Machine("ab", [[at, at] for at in range(5)]), Machine("a", [[1], [2], [3], [4], [4]]),
             Machine("abc", [[1, 0, 3], [2, 1, 4], [3, 2, 0], [4, 3, 1], [0, 4, 2]])]
    return made


def groups(team):
    """All groups of a team."""
    return [list(group) for many in range(len(team) + 1) for group in combinations(range(len(team)), many)]


def letter_words(team, many):
    """All words with so many letters."""
    return ["".join(letters) for letters in product(team.alphabet, repeat=many)]


def steps_by_words(team, many):
    """For each joint state the set of those so many steps behind it, by the words of the document."""
    joint = team.joint()
    return [{joint.behind(word, state=start) for word in letter_words(team, many)} for start in range(joint.states)]


def steps_in_turn(team, many):
    """The same for 0 letters up to so many, each made from the one before."""
    moves = team.joint().moves()
    found = [[{start} for start in range(len(moves))]]
    for turn in range(many):
        found.append([{goal for state in behind for goal in moves[state]} for behind in found[-1]])
    return found


def cycle(team):
    """The least numbers b and p of letters such that as many steps lead as far for b and b + p, and all relations."""
    found = steps_in_turn(team, 0)
    while found[-1] not in found[:-1]:
        moves = team.joint().moves()
        found.append([{goal for state in behind for goal in moves[state]} for behind in found[-1]])
    begin = found.index(found[-1])
    return begin, len(found) - 1 - begin, found


def same_blocks(blocks):
    """The pairs of states that are in one block."""
    return {(one, other) for one in range(len(blocks)) for other in range(len(blocks)) if blocks[one] == blocks[other]}


def stays_together(machine, blocks):
    """Whether all states of one block go to states of one block, by the words of the document."""
    moves = machine.moves()
    return all(blocks[moves[one][at]] == blocks[moves[other][at]]
               for one, other in same_blocks(blocks) for at in range(len(machine.alphabet)))


def all_images(machine, apart=()):
    """All images that put the states of each pair into different blocks, in ascending order."""
    return [blocks for blocks in partitions(machine.states)
            if stays_together(machine, blocks) and all(blocks[one] != blocks[other] for one, other in apart)]


def all_reports(team):
    """All reports of a team."""
    return list(product(*[[None, *range(machine.states)] for machine in team.machines()]))


def wrong_ones(states, report):
    """How many states of a report differ from a joint state."""
    return sum(1 for told, state in zip(report, states) if told is not None and told != state)


class Case(unittest.TestCase):
    def fails(self, error, call, *rest, **more):
        """The error of a call, which is of just this class."""
        with self.assertRaises(error) as caught:
            call(*rest, **more)
        self.assertIs(caught.exception.__class__, error)
        return caught.exception

    def gives(self, error, given, call, *rest, **more):
        """Looks at the error of a call and at what it was given: 1 is not True there."""
        told = self.fails(error, call, *rest, **more).given
        self.assertEqual((told, told.__class__), (given, given.__class__))

    def too_many(self, most, call, *rest, **more):
        """Looks at the error TooMany of a call."""
        self.assertEqual(self.fails(TooMany, call, *rest, **more).most, most)
