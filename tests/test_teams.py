import unittest

from helpers import A2, A3, B2, FALL, R2, STAY, Case, words

from othersknow.errors import AlphabetsDiffer, InvalidIndex, InvalidState, InvalidWord, NoMachines, TooMany
from othersknow.machines import Machine
from othersknow.teams import Team

X = Machine("xyz", [[1, 0, 2], [2, 1, 0], [2, 2, 1]])

TEAMS = [Team([A2]), Team([A2, B2]), Team([B2, A2]), Team([R2, A3]), Team([A2, B2, R2]), Team([STAY]),
         Team([STAY, STAY]), Team([FALL, A2]), Team([STAY, FALL, A3]), Team([A2, B2, R2, STAY, A2, A2]),
         Team([X, Machine.counter("xyz", 3, letter="y")]), Team([Machine.ring("z", 8), Machine.ring("z", 3)])]


def enough(team):
    """All words of a length by which each joint state of the teams above is reached."""
    return words(team.alphabet, 23 if len(team.alphabet) == 1 else 7)


def together(team, word):
    return tuple(machine.behind(word) for machine in team.machines())


def partings(team):
    """The partings of all two different joint states, by their pairs."""
    states = team.joint_states()
    return {(low, high): [at for at in range(len(team)) if states[low][at] != states[high][at]]
            for low in range(len(states)) for high in range(low + 1, len(states))}


class Making(Case):
    def test_class_values(self):
        self.assertEqual((Team.MOST, Team.JOINT, TEAMS[0].MOST, TEAMS[0].JOINT), (6, 24, 6, 24))

    def test_one_machine_and_six(self):
        self.assertEqual(Team([A2]).machines(), [A2])
        self.assertEqual(Team([A2, B2, R2, STAY, A2, A2]).machines(), [A2, B2, R2, STAY, A2, A2])
        self.assertEqual(Team(machines=[A2, B2]).alphabet, "ab")
        self.assertEqual(Team([X]).alphabet, "xyz")

    def test_no_machines(self):
        self.fails(NoMachines, Team, [])
        self.fails(NoMachines, Team, ())

    def test_more_than_six_machines(self):
        self.assertEqual(self.fails(TooMany, Team, [A2] * 7).most, 6)
        self.assertEqual(self.fails(TooMany, Team, [A2] * 400).most, 6)

    def test_alphabets_that_differ(self):
        self.fails(AlphabetsDiffer, Team, [A2, Machine.ring("a", 2)])
        self.fails(AlphabetsDiffer, Team, [A2, Machine.ring("ac", 2)])
        self.fails(AlphabetsDiffer, Team, [A2, B2, R2, A2, B2, Machine.ring("abc", 2)])
        self.fails(AlphabetsDiffer, Team, [Machine.ring("b", 2), A2, B2])

    def test_24_joint_states_and_more(self):
        self.assertEqual(len(Team([Machine.ring("z", 8), Machine.ring("z", 3)]).joint_states()), 24)
        self.assertEqual(len(Team([Machine.ring("abc", 24)] * 6).joint_states()), 24)
        self.assertEqual(len(Team([Machine.counter("ab", 4, letter="a"), Machine.counter("ab", 6, letter="b")])
                             .joint_states()), 24)
        for machines in ([Machine.ring("a", 5), Machine.ring("a", 6)],
                         [Machine.counter("ab", 5, letter="a"), Machine.counter("ab", 5, letter="b")],
                         [Machine.ring("ab", size) for size in (24, 23, 19, 17, 13, 11)]):
            self.assertEqual(self.fails(TooMany, Team, machines).most, 24)

    def test_just_25_joint_states(self):
        # A tail of one joint state in front of a circle of 24.
        tail = Machine("a", [[1], [2], [3], [1]])
        self.assertEqual(self.fails(TooMany, Team, [tail, Machine.ring("a", 8)]).most, 24)
        self.assertEqual(len(Team([Machine("a", [[1], [2], [1]]), Machine.ring("a", 22)]).joint_states()), 23)

    def test_joint_states_that_no_word_leads_to_do_not_count(self):
        self.assertEqual(len(Team([Machine.ring("a", 24), Machine.ring("a", 12)]).joint_states()), 24)

    def test_the_order_of_the_errors(self):
        wide = Machine.ring("a", 23)
        self.assertEqual(self.fails(TooMany, Team, [A2, wide] * 4).most, 6)
        self.assertEqual(self.fails(TooMany, Team, [wide, Machine.ring("a", 24)] * 4).most, 6)
        self.fails(AlphabetsDiffer, Team, [wide, Machine.ring("a", 24), A2])
        self.assertEqual(self.fails(TooMany, Team, [wide, Machine.ring("a", 24)]).most, 24)

    def test_a_tuple_stands_for_the_list(self):
        self.assertEqual(Team((A2, B2)), Team([A2, B2]))
        self.assertEqual(Team((A2, B2)).machines(), [A2, B2])

    def test_arguments_are_copied_and_left_alone(self):
        machines = [A2, B2]
        team = Team(machines)
        self.assertEqual(machines, [A2, B2])
        machines.append(R2)
        machines[0] = A3
        self.assertEqual((team.machines(), len(team)), ([A2, B2], 2))

    def test_returned_lists_are_new(self):
        team = Team([A2, B2])
        team.machines().append(R2)
        team.joint_states().append((7, 7))
        team.parting(0, 3).append(9)
        team.weakest().append((7, 7))
        self.assertEqual((team.machines(), team.joint_states()), ([A2, B2], [(0, 0), (1, 0), (0, 1), (1, 1)]))
        self.assertEqual((team.parting(0, 3), len(team.weakest())), ([0, 1], 4))

    def test_properties_cannot_be_assigned(self):
        for name in ("alphabet", "distance"):
            with self.assertRaises(AttributeError):
                setattr(TEAMS[0], name, 1)


class Joint(Case):
    def test_joint_states_stand_in_the_sequence_of_their_words(self):
        for team in TEAMS:
            with self.subTest(team):
                sequence = []
                for word in enough(team):
                    if together(team, word) not in sequence:
                        sequence.append(together(team, word))
                self.assertEqual(team.joint_states(), sequence)

    def test_written_out(self):
        self.assertEqual(Team([A2, B2]).joint_states(), [(0, 0), (1, 0), (0, 1), (1, 1)])
        self.assertEqual(Team([B2, A2]).joint_states(), [(0, 0), (0, 1), (1, 0), (1, 1)])
        self.assertEqual(Team([FALL]).joint_states(), [(0,), (1,), (2,), (3,)])
        self.assertEqual(Team([STAY, STAY]).joint_states(), [(0, 0)])

    def test_the_joint_machine(self):
        self.assertEqual(Team([A2, B2]).joint(), Machine("ab", [[1, 2], [0, 3], [3, 0], [2, 1]]))
        self.assertEqual(Team([STAY]).joint(), STAY)
        for team in TEAMS:
            with self.subTest(team):
                joint = team.joint()
                self.assertEqual((joint.alphabet, joint.states), (team.alphabet, len(team.joint_states())))
                self.assertEqual(joint.standard(), joint)
                for word in enough(team):
                    self.assertEqual(team.joint_states()[joint.behind(word)], together(team, word))

    def test_behind(self):
        for team in TEAMS:
            for word in enough(team):
                self.assertEqual(team.behind(word), together(team, word))
        self.assertEqual(TEAMS[1].behind(""), (0, 0))
        self.assertEqual(TEAMS[1].behind(word="aab"), (0, 1))
        self.assertIsInstance(TEAMS[1].behind("a"), tuple)

    def test_behind_a_wrong_word(self):
        for value in ("c", "abc", "A", " ", 0, True, None, ("a",), ["a"], []):
            with self.subTest(value):
                self.gives(InvalidWord, value, TEAMS[1].behind, value)

    def test_number_of(self):
        for team in TEAMS:
            for number, states in enumerate(team.joint_states()):
                self.assertEqual(team.number_of(states), number)
        self.assertEqual(TEAMS[1].number_of(states=(1, 1)), 3)

    def test_number_of_other_values(self):
        team = TEAMS[1]
        for value in [(2, 0), (0,), (0, 0, 0), (), (-1, 0), [0, 0], [], (True, 0), (0, False), (False, False), (None, 0),
                      ("0", "0"), ([0], 0), ((0,), (0,)), (0, (0, 0)), 0, 1, True, False, None, "", "00", [(0, 0)],
                      ((0, 0),), ([], {}), 10 ** 31, (10 ** 31, 0), {}, {(0, 0)}]:
            with self.subTest(value):
                self.assertIs(team.number_of(value), None)
        # A tuple of states, but no word leads to it.
        self.assertIs(Team([A2, A2]).number_of((0, 1)), None)

    def test_word_to(self):
        for team in TEAMS:
            first = {}
            for word in enough(team):
                first.setdefault(together(team, word), word)
            self.assertEqual([team.word_to(number) for number in range(len(team.joint_states()))],
                             [first[states] for states in team.joint_states()])
        self.assertEqual([TEAMS[1].word_to(number=number) for number in range(4)], ["", "a", "b", "ab"])

    def test_word_to_wrong_numbers(self):
        for value in (4, -1, 10 ** 31, True, False, None, "0", (0, 0), (0,), [0], []):
            with self.subTest(value):
                self.gives(InvalidState, value, TEAMS[1].word_to, value)


class Distance(Case):
    def test_partings(self):
        for team in TEAMS:
            for (low, high), places in partings(team).items():
                self.assertEqual(team.parting(low, high), places)
                self.assertEqual(team.parting(high, low), places)
        self.assertEqual(TEAMS[1].parting(one=0, other=2), [1])

    def test_parting_of_equal_numbers(self):
        for team in TEAMS:
            for number in range(len(team.joint_states())):
                self.assertEqual(team.parting(number, number), [])

    def test_parting_of_wrong_numbers(self):
        for value in (4, -1, 10 ** 31, True, False, None, "0", (0, 0), [0], []):
            with self.subTest(value):
                self.gives(InvalidState, value, TEAMS[1].parting, value, 0)
                self.gives(InvalidState, value, TEAMS[1].parting, 0, value)
                self.gives(InvalidState, value, TEAMS[1].parting, value, value)
                self.gives(InvalidState, value, TEAMS[1].parting, value, 99)
                self.gives(InvalidState, 99, TEAMS[1].parting, 99, value)

    def test_distances(self):
        for team in TEAMS:
            sizes = [len(places) for places in partings(team).values()]
            self.assertEqual(team.distance, min(sizes) if sizes else None)
        self.assertEqual([Team([A2]).distance, Team([A2, B2]).distance, Team([A2, B2, R2]).distance], [1, 1, 2])
        self.assertEqual([Team([A2] * many).distance for many in range(1, 7)], [1, 2, 3, 4, 5, 6])

    def test_one_joint_state_has_no_distance(self):
        self.assertIs(Team([STAY]).distance, None)
        self.assertIs(Team([STAY] * 6).distance, None)
        # The machine has two states, but no word leads to the other one.
        self.assertIs(Team([Machine("a", [[0], [0]])]).distance, None)

    def test_weakest(self):
        for team in TEAMS:
            pairs = [pair for pair, places in partings(team).items() if len(places) == team.distance]
            self.assertEqual(team.weakest(), sorted(pairs))
        self.assertEqual(Team([A2, B2]).weakest(), [(0, 1), (0, 2), (1, 3), (2, 3)])
        self.assertEqual(Team([A2, B2, R2]).weakest(), [(0, 1), (0, 2), (0, 3), (1, 2), (1, 3), (2, 3)])
        self.assertEqual(Team([A2]).weakest(), [(0, 1)])
        self.assertEqual(Team([STAY, STAY]).weakest(), [])


class Changing(Case):
    def test_with_machines(self):
        team = Team([A2, B2])
        self.assertEqual(team.with_machines(R2), Team([A2, B2, R2]))
        self.assertEqual(team.with_machines(R2, A2, STAY), Team([A2, B2, R2, A2, STAY]))
        self.assertEqual(team.with_machines(), Team([A2, B2]))
        self.assertEqual(team.with_machines(R2).distance, 2)
        self.assertEqual(team, Team([A2, B2]))
        self.assertEqual((len(team), team.distance), (2, 1))

    def test_with_machines_raises_the_errors_of_a_team(self):
        team = Team([A2, B2])
        other = Machine.ring("a", 2)
        wide = Machine.ring("ab", 24)
        self.assertEqual(self.fails(TooMany, team.with_machines, *[A2] * 5).most, 6)
        self.assertEqual(self.fails(TooMany, team.with_machines, *[other] * 5).most, 6)
        self.fails(AlphabetsDiffer, team.with_machines, wide, other)
        self.assertEqual(self.fails(TooMany, team.with_machines, wide).most, 24)
        self.assertEqual(team, Team([A2, B2]))
        self.assertEqual(len(team.with_machines(*[A2] * 4)), 6)

    def test_without(self):
        team = Team([A2, B2, R2])
        self.assertEqual(team.without(0), Team([B2, R2]))
        self.assertEqual(team.without(1), Team([A2, R2]))
        self.assertEqual(team.without(index=2), Team([A2, B2]))
        self.assertEqual((team, team.distance), (Team([A2, B2, R2]), 2))
        self.assertEqual(team.without(0).joint_states(), [(0, 0), (0, 1), (1, 1), (1, 0)])

    def test_without_a_machine_that_is_not_there(self):
        for value in (3, -1, 10 ** 31, True, False, None, "0", (0,), [0], []):
            with self.subTest(value):
                self.gives(InvalidIndex, value, Team([A2, B2, R2]).without, value)

    def test_without_the_only_machine(self):
        team = Team([A2])
        self.fails(NoMachines, team.without, 0)
        self.gives(InvalidIndex, 1, team.without, 1)
        self.gives(InvalidIndex, False, team.without, False)
        self.assertEqual(team, Team([A2]))


class Plain(Case):
    def test_equality(self):
        self.assertTrue(Team([A2, B2]) == Team((Machine.counter("ab", 2, letter="a"), B2)))
        self.assertFalse(Team([A2, B2]) != Team([A2, B2]))
        self.assertFalse(Team([A2, B2]) == Team([B2, A2]))
        self.assertFalse(Team([A2, B2]) == Team([A2, B2, B2]))
        self.assertFalse(Team([A2]) == Team([B2]))
        # Alike machines are not equal ones.
        self.assertFalse(Team([FALL]) == Team([FALL.standard()]))

    def test_a_team_equals_nothing_else(self):
        for value in (A2, [A2], (A2,), None, 0, 1, True, "a", (), [], {}):
            self.assertIs(Team([A2]) == value, False)
            self.assertIs(Team([A2]) != value, True)
            self.assertIs(value == Team([A2]), False)

    def test_len(self):
        self.assertEqual([len(Team([A2] * many)) for many in range(1, 7)], [1, 2, 3, 4, 5, 6])

    def test_repr(self):
        self.assertEqual(repr(Team([R2, A3])), "Team(2 machines, 6 joint states)")
        self.assertEqual(repr(Team([STAY])), "Team(1 machines, 1 joint states)")


if __name__ == "__main__":
    unittest.main()
