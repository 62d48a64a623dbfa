import unittest

from helpers import Case, words

from othersknow.errors import InvalidAlphabet, InvalidCount, InvalidMove, InvalidState, InvalidStates, InvalidWord
from othersknow.machines import Machine, alike, is_alphabet

# A value of every kind of point 2.
KINDS = [0, 1, -1, 24, 10 ** 31, "", "a", "0", "hello", True, False, None, (), (0,), ("a",), [], [0], ["a"], [[0]],
         ([], None)]

BIG = 10 ** 30

ONE = Machine("a", [[1], [2], [1]])
TWO = Machine("ab", [[1, 0], [2, 3], [0, 2], [3, 1]])
THREE = Machine("abz", [[2, 0, 1], [1, 1, 0], [0, 1, 2]])
# No word leads to the states 2 and 4.
LOOSE = Machine("ab", [[3, 1], [1, 3], [4, 4], [3, 5], [2, 0], [1, 1]])
MACHINES = [ONE, TWO, THREE, LOOSE, Machine("z", [[0]]), Machine.ring("ab", 24), Machine.counter("ab", 5, letter="b")]


def walked(machine, word, state=0):
    moves = machine.moves()
    for letter in word:
        state = moves[state][list(machine.alphabet).index(letter)]
    return state


class Alphabets(Case):
    def test_alphabets(self):
        for value in ("a", "z", "m", "ab", "az", "yz", "abc", "amz", "xyz"):
            with self.subTest(value):
                self.assertIs(is_alphabet(value), True)

    def test_strings_that_are_none(self):
        for value in ("", "abcd", "ba", "aa", "aab", "abb", "acb", "A", "aB", "a1", "1", " ", "a b", "a,", "`a", "a{",
                      "a\n", "\n", "_", "\u00e4", "a\u00e9", "\u03b1", "a" * 2000):
            with self.subTest(value):
                self.assertIs(is_alphabet(value), False)

    def test_other_values_are_none(self):
        for value in (0, 1, True, False, None, (), ("a",), ("a", "b"), [], ["a"], ["a", "b"], [["a"]], 10 ** 31):
            with self.subTest(value):
                self.assertIs(is_alphabet(value), False)

    def test_the_value_may_be_passed_by_name(self):
        self.assertTrue(is_alphabet(value="ab"))


class Making(Case):
    def test_ordinary_machines(self):
        self.assertEqual((ONE.alphabet, ONE.states, ONE.moves()), ("a", 3, [[1], [2], [1]]))
        self.assertEqual((TWO.alphabet, TWO.states, TWO.moves()), ("ab", 4, [[1, 0], [2, 3], [0, 2], [3, 1]]))
        self.assertEqual((THREE.alphabet, THREE.states), ("abz", 3))
        self.assertEqual(THREE.moves(), [[2, 0, 1], [1, 1, 0], [0, 1, 2]])

    def test_names_of_the_parameters(self):
        self.assertEqual(Machine(moves=[[0]], alphabet="a"), Machine("a", [[0]]))

    def test_the_most_states(self):
        self.assertEqual(Machine.STATES, 24)
        self.assertEqual(ONE.STATES, 24)

    def test_one_state_and_24_states(self):
        self.assertEqual(Machine("ab", [[0, 0]]).states, 1)
        rows = [[(state * 5 + 1) % 24, 23 - state] for state in range(24)]
        self.assertEqual(Machine("ab", rows).moves(), rows)
        self.assertEqual(Machine("ab", rows).states, 24)

    def test_wrong_alphabets(self):
        for value in [kind for kind in KINDS if kind != "a"] + ["ba", "abcd", "aa", "A"]:
            with self.subTest(value):
                self.fails(InvalidAlphabet, Machine, value, [[0]])

    def test_wrong_numbers_of_states(self):
        self.gives(InvalidStates, 0, Machine, "a", [])
        self.gives(InvalidStates, 0, Machine, "a", ())
        self.gives(InvalidStates, 25, Machine, "a", [[0]] * 25)
        self.gives(InvalidStates, 400, Machine, "a", [None] * 400)

    def test_what_is_no_list_has_no_states(self):
        for value in (None, 3, True, "ab", "a"):
            with self.subTest(value):
                self.gives(InvalidStates, 0, Machine, "a", value)

    def test_wrong_goals(self):
        for goals in [None, 0, True, "00", "ab", [], [0], [0, 0, 0], [0, 2], [2, 0], [-1, 0], [0, -1], [True, 0],
                      [0, False], [None, 0], ["0", 0], [0, "a"], [[0], 0], [0, (1,)], [10 ** 31, 0], [[0, 0]]]:
            with self.subTest(goals):
                self.assertEqual(self.fails(InvalidMove, Machine, "ab", [[0, 1], goals]).index, 1)
                self.assertEqual(self.fails(InvalidMove, Machine, "ab", [goals, [0, 1]]).index, 0)

    def test_the_first_wrong_state_is_told(self):
        self.assertEqual(self.fails(InvalidMove, Machine, "a", [[0], [3], [1, 1], None]).index, 2)
        self.assertEqual(self.fails(InvalidMove, Machine, "a", [[0], [4], [1, 1], None]).index, 1)
        last = [[0]] * 23 + [[24]]
        self.assertEqual(self.fails(InvalidMove, Machine, "a", last).index, 23)

    def test_the_order_of_the_errors(self):
        self.fails(InvalidAlphabet, Machine, "ba", [])
        self.fails(InvalidAlphabet, Machine, None, [None])
        self.fails(InvalidAlphabet, Machine, "ba", None)
        self.gives(InvalidStates, 25, Machine, "ab", [[99]] * 25)

    def test_tuples_stand_for_lists(self):
        made = Machine("ab", ([1, 0], (0, 1)))
        self.assertEqual(made, Machine("ab", [[1, 0], [0, 1]]))
        self.assertEqual(made.moves(), [[1, 0], [0, 1]])
        self.assertEqual([row.__class__ for row in made.moves()], [list, list])

    def test_arguments_are_copied_and_left_alone(self):
        rows = [[1, 0], [0, 1]]
        made = Machine("ab", rows)
        self.assertEqual(rows, [[1, 0], [0, 1]])
        rows[0][0] = 7
        rows.append([0, 0])
        self.assertEqual((made.moves(), made.states, made.behind("a")), ([[1, 0], [0, 1]], 2, 1))

    def test_returned_lists_are_new(self):
        made = Machine("ab", [[1, 0], [0, 1]])
        rows = made.moves()
        rows[0][0] = 7
        rows.append([0, 0])
        made.reachable().append(9)
        self.assertEqual((made.moves(), made.reachable(), made.behind("a")), ([[1, 0], [0, 1]], [0, 1], 1))

    def test_properties_cannot_be_assigned(self):
        for name in ("alphabet", "states"):
            with self.assertRaises(AttributeError):
                setattr(TWO, name, 1)


class Behind(Case):
    def test_against_the_moves(self):
        for machine in MACHINES:
            for state in range(machine.states):
                for word in words(machine.alphabet, 4):
                    self.assertEqual(machine.behind(word, state=state), walked(machine, word, state))

    def test_defaults_and_names(self):
        self.assertEqual(TWO.behind("ab"), TWO.behind("ab", state=0))
        self.assertEqual(TWO.behind(word="ab", state=1), walked(TWO, "ab", 1))
        with self.assertRaises(TypeError):
            TWO.behind("ab", 0)

    def test_the_empty_and_a_long_word(self):
        self.assertEqual(TWO.behind(""), 0)
        self.assertEqual(TWO.behind("", state=3), 3)
        self.assertEqual(TWO.behind("ab" * 1000), walked(TWO, "ab" * 1000))

    def test_wrong_states(self):
        for value in (4, -1, 10 ** 31, True, False, None, "0", (0,), [0]):
            with self.subTest(value):
                self.gives(InvalidState, value, TWO.behind, "a", state=value)

    def test_wrong_words(self):
        for value in ("c", "abc", "aB", "a ", " ", "a\n", 0, 1, True, None, ("a",), ["a"], [], ()):
            with self.subTest(value):
                self.gives(InvalidWord, value, TWO.behind, value)

    def test_the_state_is_looked_at_first(self):
        self.gives(InvalidState, 4, TWO.behind, "c", state=4)

    def test_an_error_does_not_hold_the_list_that_was_passed(self):
        value = [[1]]
        error = self.fails(InvalidWord, TWO.behind, value)
        value[0].append(2)
        self.assertEqual(error.given, [[1]])


class Far(Case):
    def test_against_words_that_are_written_out(self):
        for machine in MACHINES:
            for word in words(machine.alphabet, 2):
                for count in list(range(8)) + [23, 24, 25, 60]:
                    for state in range(machine.states):
                        self.assertEqual(machine.far([(word, count)], state=state),
                                         walked(machine, word * count, state))

    def test_several_pairs(self):
        parts = [("ab", 3), ("", 5), ("b", 0), ("a", 7), ("bba", 2)]
        for state in range(4):
            self.assertEqual(TWO.far(parts, state=state), walked(TWO, "ab" * 3 + "a" * 7 + "bba" * 2, state))
        self.assertEqual(TWO.far(parts), TWO.far(parts, state=0))
        self.assertEqual(TWO.far(tuple(parts)), TWO.far(parts))

    def test_no_pairs_and_the_count_0(self):
        self.assertEqual([TWO.far([]), TWO.far((), state=2), TWO.far([("a", 0)], state=3)], [0, 2, 3])

    def test_the_largest_counts(self):
        self.assertEqual(Machine.ring("a", 7).far([("a", BIG)]), BIG % 7)
        self.assertEqual(Machine.ring("ab", 24).far([("aba", BIG), ("b", BIG - 1)], state=5), (5 + 4 * BIG - 1) % 24)
        self.assertEqual(Machine.counter("abc", 24, letter="c").far([("cab", BIG - 7)]), (BIG - 7) % 24)
        # A tail of two states in front of a circle of three.
        tail = Machine("a", [[1], [2], [3], [4], [2]])
        for count in (BIG, BIG - 1, BIG - 2, BIG - 3, 10 ** 9, 7, 6, 5, 4, 3, 2):
            self.assertEqual(tail.far([("a", count)]), 2 + (count - 2) % 3)
        self.assertEqual(TWO.far([("", BIG)], state=2), 2)

    def test_the_longest_list(self):
        self.assertEqual(Machine.ring("a", 23).far([("a", BIG)] * 400), 400 * BIG % 23)

    def test_wrong_states(self):
        for value in (4, -1, True, None, "0", (0,), [0]):
            with self.subTest(value):
                self.gives(InvalidState, value, TWO.far, [("a", 1)], state=value)

    def test_wrong_words(self):
        for value in ("c", "aB", 1, True, None, ("a",), ["a"]):
            with self.subTest(value):
                self.gives(InvalidWord, value, TWO.far, [("a", 1), (value, 1)])

    def test_wrong_counts(self):
        for value in (-1, BIG + 1, 10 ** 31, True, False, None, "1", "", (1,), [1]):
            with self.subTest(value):
                self.gives(InvalidCount, value, TWO.far, [("a", 1), ("b", value)])

    def test_the_order_of_the_errors(self):
        self.gives(InvalidState, 4, TWO.far, [("c", -1)], state=4)
        self.gives(InvalidWord, "c", TWO.far, [("c", -1)])
        self.gives(InvalidCount, -1, TWO.far, [("a", -1), ("c", -2)])
        self.gives(InvalidWord, "c", TWO.far, [("a", 1), ("c", -1), ("d", 1), ("a", -2)])
        self.gives(InvalidCount, -2, TWO.far, [("a", 1), ("b", -2), ("c", 1), ("a", -3)])

    def test_what_is_no_pair_is_a_wrong_word(self):
        for value in (["a", 1], ("a",), ("a", 1, 1), (), "ab", None, 1):
            with self.subTest(value):
                self.gives(InvalidWord, value, TWO.far, [("a", 1), value])

    def test_names_and_arguments_that_stay(self):
        parts = [("a", 3)]
        self.assertEqual(TWO.far(parts=parts, state=1), walked(TWO, "aaa", 1))
        self.assertEqual(parts, [("a", 3)])
        with self.assertRaises(TypeError):
            TWO.far(parts, 1)


class Words(Case):
    def test_against_all_words(self):
        for machine in MACHINES:
            first = {}
            for word in words(machine.alphabet, 6):
                first.setdefault(walked(machine, word), word)
            if machine.states < 24:
                self.assertEqual([machine.word_to(state) for state in range(machine.states)],
                                 [first.get(state) for state in range(machine.states)])

    def test_long_roads(self):
        ring = Machine.ring("ab", 24)
        self.assertEqual([ring.word_to(state) for state in range(24)], ["a" * state for state in range(24)])
        self.assertEqual(Machine.counter("ab", 24, letter="b").word_to(23), "b" * 23)

    def test_shorter_words_come_first(self):
        machine = Machine("ab", [[1, 3], [2, 1], [3, 2], [3, 3]])
        self.assertEqual([machine.word_to(state) for state in range(4)], ["", "a", "aa", "b"])

    def test_the_first_of_words_of_the_same_length(self):
        machine = Machine("ab", [[2, 1], [3, 3], [0, 3], [0, 0]])
        self.assertEqual([machine.word_to(state) for state in range(4)], ["", "b", "a", "ab"])

    def test_states_that_no_word_leads_to(self):
        self.assertEqual([LOOSE.word_to(state) for state in range(6)], ["", "b", None, "a", None, "ab"])
        self.assertEqual(Machine("a", [[0], [0]]).word_to(1), None)

    def test_wrong_states(self):
        for value in (6, -1, 10 ** 31, True, False, None, "0", "", (0,), [0]):
            with self.subTest(value):
                self.gives(InvalidState, value, LOOSE.word_to, value)
        self.assertEqual(LOOSE.word_to(state=3), "a")

    def test_reachable(self):
        self.assertEqual(LOOSE.reachable(), [0, 1, 3, 5])
        self.assertEqual(Machine("a", [[0], [0]]).reachable(), [0])
        self.assertEqual(Machine("a", [[3], [0], [1], [1]]).reachable(), [0, 1, 3])
        self.assertEqual(Machine.ring("abc", 24).reachable(), list(range(24)))


class Standard(Case):
    def test_reachable_states_alone_in_the_sequence_of_their_words(self):
        # 0 by no letters, 3 by a, 1 by b, 5 by ab.
        self.assertEqual(LOOSE.standard(), Machine("ab", [[1, 2], [1, 3], [2, 1], [2, 2]]))
        self.assertEqual(Machine("a", [[0], [0]]).standard(), Machine("a", [[0]]))
        self.assertEqual(Machine("a", [[2], [1], [1]]).standard(), Machine("a", [[1], [2], [2]]))

    def test_the_standard_form_of_a_standard_form(self):
        for machine in MACHINES:
            made = machine.standard()
            self.assertEqual(made.standard(), made)
            self.assertEqual(made.reachable(), list(range(made.states)))
            roads = [made.word_to(state) for state in range(made.states)]
            self.assertEqual(roads, sorted(roads, key=lambda road: (len(road), road)))

    def test_words_lead_to_the_states_with_the_same_first_word(self):
        for machine in MACHINES:
            made = machine.standard()
            for word in words(machine.alphabet, 5):
                self.assertEqual(made.word_to(made.behind(word)), machine.word_to(machine.behind(word)))

    def test_the_machine_itself_stays(self):
        LOOSE.standard()
        self.assertEqual(LOOSE.states, 6)

    def test_alike_with_renamed_states(self):
        renamed = Machine("ab", [[2, 0], [0, 3], [3, 3], [1, 2]])
        base = Machine("ab", [[1, 0], [2, 3], [0, 1], [3, 3]])
        # 0, 1, 2, 3 of the one are 0, 2, 3, 1 of the other.
        names = [0, 2, 3, 1]
        rows = [None] * 4
        for state, goals in enumerate(base.moves()):
            rows[names[state]] = [names[goal] for goal in goals]
        self.assertIs(alike(base, Machine("ab", rows)), True)
        self.assertNotEqual(base, Machine("ab", rows))
        self.assertIs(alike(base, renamed), False)

    def test_alike_with_states_that_no_word_leads_to(self):
        self.assertTrue(alike(LOOSE, LOOSE.standard()))
        self.assertTrue(alike(Machine("a", [[0], [1]]), Machine("a", [[0], [0], [2]])))

    def test_machines_that_are_not_alike(self):
        self.assertFalse(alike(Machine("a", [[0]]), Machine("b", [[0]])))
        self.assertFalse(alike(Machine("a", [[0]]), Machine("ab", [[0, 0]])))
        # All states of both do the same, but their numbers differ.
        self.assertFalse(alike(Machine("a", [[0]]), Machine("a", [[1], [0]])))
        # The begin counts.
        self.assertFalse(alike(Machine("a", [[1], [1]]), Machine("a", [[0], [0]])))
        self.assertTrue(alike(one=TWO, other=TWO))


class Shapes(Case):
    def test_rings(self):
        self.assertEqual(Machine.ring("ab", 3), Machine("ab", [[1, 1], [2, 2], [0, 0]]))
        self.assertEqual(Machine.ring("xyz", 2).moves(), [[1, 1, 1], [0, 0, 0]])
        self.assertEqual(Machine.ring("a", 1), Machine("a", [[0]]))
        self.assertEqual(Machine.ring("a", 24).moves(), [[state] for state in range(1, 24)] + [[0]])
        self.assertEqual(Machine.ring(size=2, alphabet="a"), Machine("a", [[1], [0]]))

    def test_counters(self):
        self.assertEqual(Machine.counter("ab", 3, letter="a").moves(), [[1, 0], [2, 1], [0, 2]])
        self.assertEqual(Machine.counter("ab", 3, letter="b").moves(), [[0, 1], [1, 2], [2, 0]])
        self.assertEqual(Machine.counter("xyz", 2, letter="y").moves(), [[0, 1, 0], [1, 0, 1]])
        self.assertEqual(Machine.counter("abc", 1, letter="c"), Machine("abc", [[0, 0, 0]]))
        self.assertEqual(Machine.counter("a", 24, letter="a"), Machine.ring("a", 24))
        self.assertEqual(Machine.counter(letter="a", size=2, alphabet="a"), Machine("a", [[1], [0]]))
        with self.assertRaises(TypeError):
            Machine.counter("ab", 2, "a")

    def test_they_may_be_called_off_a_machine(self):
        self.assertEqual(TWO.ring("a", 2), Machine.ring("a", 2))
        self.assertEqual(TWO.counter("ab", 2, letter="b"), Machine.counter("ab", 2, letter="b"))

    def test_a_ring_is_of_the_class_that_is_asked(self):
        class Wheel(Machine):
            pass

        self.assertIsInstance(Wheel.ring("a", 2), Wheel)

    def test_wrong_alphabets(self):
        for value in [kind for kind in KINDS if kind != "a"] + ["ba", "abcd"]:
            with self.subTest(value):
                self.fails(InvalidAlphabet, Machine.ring, value, 2)
                self.fails(InvalidAlphabet, Machine.counter, value, 2, letter="a")

    def test_wrong_sizes(self):
        for value in (0, 25, -1, 10 ** 31, True, False, None, "2", "", (2,), [2], []):
            with self.subTest(value):
                self.gives(InvalidStates, value, Machine.ring, "ab", value)
                self.gives(InvalidStates, value, Machine.counter, "ab", value, letter="a")

    def test_wrong_letters(self):
        for value in ("c", "", "ab", "aa", "A", 0, True, None, ("a",), ["a"], []):
            with self.subTest(value):
                self.gives(InvalidWord, value, Machine.counter, "ab", 2, letter=value)

    def test_the_order_of_the_errors(self):
        self.fails(InvalidAlphabet, Machine.ring, "ba", 0)
        self.fails(InvalidAlphabet, Machine.counter, "ba", 0, letter="c")
        self.gives(InvalidStates, 25, Machine.counter, "ab", 25, letter="c")


class Plain(Case):
    def test_equality(self):
        self.assertTrue(Machine("ab", [[1, 0], [0, 1]]) == Machine("ab", [(1, 0), (0, 1)]))
        self.assertFalse(Machine("ab", [[1, 0], [0, 1]]) != Machine("ab", [(1, 0), (0, 1)]))
        self.assertFalse(Machine("ab", [[1, 0], [0, 1]]) == Machine("ab", [[1, 0], [1, 1]]))
        self.assertFalse(Machine("ab", [[0, 0]]) == Machine("ac", [[0, 0]]))
        self.assertFalse(Machine("a", [[0]]) == Machine("a", [[0], [0]]))
        # Alike, but not equal.
        self.assertFalse(LOOSE == LOOSE.standard())

    def test_a_machine_equals_nothing_else(self):
        for value in KINDS + [{}, ("a", ((0,),)), [[0]], "a 0"]:
            with self.subTest(value):
                self.assertIs(Machine("a", [[0]]) == value, False)
                self.assertIs(Machine("a", [[0]]) != value, True)

    def test_len(self):
        self.assertEqual([len(machine) for machine in MACHINES], [machine.states for machine in MACHINES])
        self.assertEqual([len(ONE), len(Machine("a", [[0]])), len(Machine.ring("a", 24))], [3, 1, 24])

    def test_repr(self):
        self.assertEqual(repr(THREE), "Machine(3 states, 3 letters)")
        self.assertEqual(repr(TWO), "Machine(4 states, 2 letters)")
        self.assertEqual(repr(Machine("a", [[0]])), "Machine(1 states, 1 letters)")


if __name__ == "__main__":
    unittest.main()
