import unittest
from itertools import product

from helpers import (A2, A3, B2, COUNTED_TEAMS, COUNTS, DEEP_LIST, DEEP_TUPLE, FALL, LINE, ODD_VALUES, R2, STAY, Case,
                     bent_ring, groups, letter_words, words)
from test_late import WRONG_GROUPS

from othersknow.errors import InvalidGroup, InvalidWord
from othersknow.healing import Healing, Heals, Never, healed_by, healing, open_pairs
from othersknow.machines import Machine
from othersknow.teams import Team

WRONG_WORDS = ["c", "aac", "A", " ", "a b", 0, 1, True, None, ("a",), ["a"], [], (), DEEP_LIST]
# The machine falls from the right to the left, whatever comes; a copy of it goes on counting at the end.
SLIDE = Machine("ab", [[1, 2], [3, 4], [4, 3], [5, 5], [5, 6], [6, 6], [6, 6]])
CHAINS = [Team([LINE]), Team([SLIDE]), Team([SLIDE, A2]), Team([Machine("a", [[1], [1]]), Machine("a", [[1], [0]])]),
          Team([FALL]), Team([Machine("a", [[min(at + 1, 23)] for at in range(24)])]),
          Team([LINE, Machine("a", [[1], [2], [2]])]), Team([SLIDE, SLIDE])]
TEAMS = [*COUNTED_TEAMS, *CHAINS]
FALLEN = Team([FALL, A2])


def pairs_by_words(team, group):
    """The open pairs, by the words of the document."""
    states = team.joint_states()
    return [(s, t) for s in range(len(states)) for t in range(s + 1, len(states))
            if all(states[s][at] == states[t][at] for at in range(len(team)) if at not in group)]


def is_healed(team, pair, word):
    """Whether a word leads both states of a pair to one."""
    joint = team.joint()
    return joint.behind(word, state=pair[0]) == joint.behind(word, state=pair[1])


def least_letters(team, pair, most):
    """The least number of letters, up to a most one, that heals a pair whatever they are, or None."""
    for many in range(most + 1):
        if all(is_healed(team, pair, word) for word in letter_words(team, many)):
            return many
    return None


def heals_holds(team, group, letters, numbers):
    """Whether a dict from pairs to numbers is right, by the words of the document."""
    joint = team.joint()
    if sorted(numbers) != pairs_by_words(team, group) or not all(1 <= number <= letters for number in numbers.values()):
        return False
    for (s, t), number in numbers.items():
        for letter in team.alphabet:
            goals = sorted([joint.behind(letter, state=s), joint.behind(letter, state=t)])
            if goals[0] != goals[1] and numbers[tuple(goals)] >= number:
                return False
    return True


class Pairs(Case):
    def test_open_pairs(self):
        for team in TEAMS:
            for group in groups(team):
                pairs = open_pairs(team, group)
                self.assertEqual(pairs, pairs_by_words(team, group))
                self.assertEqual(open_pairs(team, tuple(group)), pairs)
            self.assertEqual(open_pairs(team, []), [])
            size = len(team.joint_states())
            self.assertEqual(len(open_pairs(team=team, group=list(range(len(team))))), size * (size - 1) // 2)

    def test_written_out(self):
        self.assertEqual(open_pairs(COUNTS, [0]), [(0, 1), (2, 3)])
        self.assertEqual(open_pairs(COUNTS, [1]), [(0, 2), (1, 3)])
        self.assertEqual(open_pairs(COUNTS, [0, 1]), [(0, 1), (0, 2), (0, 3), (1, 2), (1, 3), (2, 3)])
        self.assertIsInstance(open_pairs(COUNTS, [0])[0], tuple)

    def test_behind_a_letter_an_open_pair_is_one_or_healed(self):
        for team in TEAMS:
            moves = team.joint().moves()
            for group in groups(team):
                pairs = open_pairs(team, group)
                for s, t in pairs:
                    for goals in zip(moves[s], moves[t]):
                        self.assertTrue(goals[0] == goals[1] or tuple(sorted(goals)) in pairs)

    def test_healed_by_against_the_joint_states(self):
        for team in TEAMS:
            for group in groups(team):
                pairs = pairs_by_words(team, group)
                for word in words(team.alphabet, 4 if len(team.alphabet) == 2 else 3):
                    self.assertIs(healed_by(team, group, word), all(is_healed(team, pair, word) for pair in pairs))
        self.assertIs(healed_by(team=Team([SLIDE]), group=[0], word="abba"), True)
        self.assertIs(healed_by(Team([SLIDE]), [0], "abb"), True)
        self.assertIs(healed_by(Team([SLIDE]), [0], "aaa"), False)
        self.assertIs(healed_by(COUNTS, (), ""), True)
        self.assertIs(healed_by(COUNTS, [0], "ab" * 1000), False)

    def test_wrong_groups(self):
        for group in WRONG_GROUPS:
            with self.subTest(group):
                self.fails(InvalidGroup, open_pairs, COUNTS, group)
                self.fails(InvalidGroup, healing, COUNTS, group)
                self.fails(InvalidGroup, healed_by, COUNTS, group, "a")
                # Listed first, so raised first.
                self.fails(InvalidGroup, healed_by, COUNTS, group, "c")
                self.fails(InvalidGroup, healed_by, COUNTS, group, None)
                for made in (lambda: Healing(COUNTS, group), lambda: Heals(COUNTS, group, 1, {}),
                             lambda: Never(COUNTS, group, (0, 1), "a"), lambda: Heals(COUNTS, group, 0, None)):
                    self.fails(InvalidGroup, made)

    def test_wrong_words(self):
        for word in WRONG_WORDS:
            for group in ([], [0], [0, 1]):
                self.gives(InvalidWord, word, healed_by, COUNTS, group, word)

    def test_returned_lists_are_new(self):
        group = [0]
        open_pairs(COUNTS, group).clear()
        self.assertEqual((open_pairs(COUNTS, group), group), ([(0, 1), (2, 3)], [0]))


class Least(Case):
    def test_the_least_number_of_letters_against_all_words(self):
        for team in TEAMS:
            most = 24 if len(team.alphabet) == 1 else 6
            for group in groups(team):
                made = healing(team, group)
                numbers = {pair: least_letters(team, pair, most) for pair in pairs_by_words(team, group)}
                with self.subTest(team, group=group):
                    if None in numbers.values():
                        self.look_at_never(made, team, group)
                    else:
                        self.assertIs(made.__class__, Heals)
                        self.assertEqual(made.numbers(), numbers)
                        self.assertEqual(made.letters, max(numbers.values(), default=0))
                        self.assertEqual(made.told(), f"heals within {made.letters} letters")
                    self.assertIs(made.holds(), True)
                    self.assertIs(bool(made), True)
                    self.assertEqual((made.team, made.group()), (team, group))

    def look_at_never(self, made, team, group):
        self.assertIs(made.__class__, Never)
        self.assertIn(made.pair, pairs_by_words(team, group))
        self.assertIsInstance(made.pair, tuple)
        ends = [team.joint().behind(made.road, state=state) for state in made.pair]
        self.assertEqual(sorted(ends), list(made.pair))
        self.assertNotEqual(made.road, "")
        self.assertEqual((made.told(), made.letters), ("never heals", None))

    def test_chains_that_need_many_letters(self):
        for size in range(1, 25):
            line = Team([Machine("ab", [[min(at + 1, size - 1)] * 2 for at in range(size)])])
            made = healing(line, [0])
            self.assertEqual((made.letters, made.holds()), (size - 1, True))
            self.assertEqual(made.numbers(), {(s, t): size - 1 - s for s in range(size) for t in range(s + 1, size)})
        self.assertEqual(healing(Team([SLIDE]), [0]).letters, 4)
        # A way round makes a pair wait, though there is a shorter way.
        team = Team([Machine("ab", [[1, 5], [2, 5], [3, 5], [4, 5], [5, 5], [5, 5]])])
        self.assertEqual(healing(team, [0]).letters, 5)
        self.assertEqual(healing(team, [0]).numbers()[(0, 5)], 5)

    def test_teams_that_never_heal(self):
        for team in (COUNTS, Team([R2, A3]), Team([Machine.ring("abc", 24)]), Team([bent_ring(24)]),
                     Team([Machine("ab", [[1, 0], [1, 1]])]), Team([A2, A2])):
            every = list(range(len(team)))
            made = healing(team, every)
            self.look_at_never(made, team, every)
            self.assertIs(made.holds(), True)
        # One letter out of two is enough to stay open for ever.
        self.look_at_never(healing(FALLEN, [1]), FALLEN, [1])

    def test_the_empty_group_heals_at_once(self):
        for team in TEAMS:
            made = healing(team=team, group=[])
            self.assertEqual((made.letters, made.numbers(), made.told()), (0, {}, "heals within 0 letters"))
            self.assertIs(made.holds(), True)
        made = healing(Team([STAY]), [0])
        self.assertEqual((made.letters, made.numbers(), repr(made)), (0, {}, "Healing(heals within 0 letters)"))

    def test_written_out(self):
        team = Team([Machine("a", [[1], [1]]), Machine("a", [[1], [0]])])
        made = healing(team, [0])
        self.assertEqual((made.letters, made.numbers(), made.told()), (1, {(0, 2): 1}, "heals within 1 letters"))
        self.assertEqual(healing(team, [1]).told(), "never heals")

    def test_equal_calls_return_equal_results(self):
        for team in TEAMS:
            for group in groups(team):
                one, other = healing(team, group), healing(team, tuple(group))
                self.assertEqual(repr(one), repr(other))
                if isinstance(one, Never):
                    self.assertEqual((one.pair, one.road), (other.pair, other.road))


class HealsPapers(Case):
    def test_dicts_with_all_numbers(self):
        for team in (Team([Machine("a", [[1], [2], [2]])]), CHAINS[3], Team([Machine("ab", [[1, 2], [2, 2], [2, 2]])])):
            for group in groups(team):
                pairs = pairs_by_words(team, group)
                for numbers in product(range(-1, 5), repeat=len(pairs)):
                    paper = dict(zip(pairs, numbers))
                    for letters in range(5):
                        right = heals_holds(team, group, letters, paper)
                        made = Heals(team, group, letters, paper)
                        self.assertIs(made.holds(), right)
                        self.assertIs(bool(made), right)

    def test_greater_numbers_and_other_orders_are_right(self):
        team = Team([SLIDE])
        numbers = healing(team, [0]).numbers()
        turned = {pair: numbers[pair] for pair in reversed(list(numbers))}
        doubled = {pair: 2 * numbers[pair] for pair in numbers}
        for letters, paper, right in ((4, turned, True), (10 ** 31, numbers, True), (8, doubled, True), (7, doubled, False),
                                      (3, numbers, False), (0, numbers, False), (4, {}, False), (0, {}, False),
                                      (5, {pair: numbers[pair] + 1 for pair in numbers}, True)):
            self.assertIs(Heals(team, [0], letters, paper).holds(), right)
        self.assertIs(Heals(team, [], 0, {}).holds(), True)
        self.assertIs(Heals(team, [], 7, {}).holds(), True)

    def test_changed_numbers(self):
        for team in CHAINS:
            for group in groups(team):
                made = healing(team, group)
                for pair, number in (made.numbers().items() if isinstance(made, Heals) else ()):
                    for fresh in (0, -1, number - 1, number + 1, made.letters, made.letters + 1, 10 ** 30):
                        paper = {**made.numbers(), pair: fresh}
                        right = heals_holds(team, group, made.letters, paper)
                        self.assertIs(Heals(team, group, made.letters, paper).holds(), right)
                        if fresh == number - 1:
                            self.assertIs(right, False)
                    for fresh in (True, False, None, str(number), "", (number,), [number], [], (), DEEP_LIST, DEEP_TUPLE):
                        paper = {**made.numbers(), pair: fresh}
                        self.assertIs(Heals(team, group, made.letters, paper).holds(), False)
                        self.assertIs(Heals(team, group, 10 ** 31, paper).holds(), False)

    def test_pairs_left_out_put_in_and_turned(self):
        team = Team([SLIDE])
        made = healing(team, [0])
        numbers = made.numbers()
        for pair, number in numbers.items():
            rest = {key: numbers[key] for key in numbers if key != pair}
            self.assertIs(Heals(team, [0], 9, rest).holds(), False)
            self.assertIs(Heals(team, [0], 9, {**rest, pair[::-1]: number}).holds(), False)
            self.assertIs(Heals(team, [0], 9, {**numbers, pair[::-1]: number}).holds(), False)
        for key in ((0, 0), (0, 7), (-1, 0), (7, 8), (0,), (0, 1, 2), (), 0, 1, "01", "", None, True, (0, None), (None, 0),
                    ("0", 1), ((0, 1), 2), ((0, 1),), DEEP_TUPLE, (0, True), (False, 0), (0, 10 ** 30)):
            if key not in numbers:
                self.assertIs(Heals(team, [0], 9, {**numbers, key: 1}).holds(), False)
            self.assertIs(Heals(team, [0], 9, {key: 1}).holds(), False)
        # A pair that is open for all machines, but not for one of them.
        team = CHAINS[3]
        self.assertEqual(open_pairs(team, [0]), [(0, 2)])
        self.assertIs(Heals(team, [0], 2, {(0, 2): 1, (0, 1): 2}).holds(), False)

    def test_true_and_false_are_no_numbers(self):
        team = Team([Machine("a", [[1], [1]])])
        self.assertIs(Heals(team, [0], 1, {(0, 1): 1}).holds(), True)
        for key in ((False, 1), (0, True), (False, True)):
            self.assertIs(Heals(team, [0], 1, {key: 1}).holds(), False)
            self.assertIs(list(Heals(team, [0], 1, {key: 1}).numbers())[0][0].__class__, key[0].__class__)
        self.assertIs(Heals(team, [0], 1, {(0, 1): True}).holds(), False)
        self.assertIs(Heals(team, [0], 1, {(0, 1): True}).numbers()[(0, 1)], True)

    def test_values_that_are_no_dicts(self):
        for value in ODD_VALUES:
            made = Heals(COUNTS, [], 1, value)
            self.assertIs(made.holds(), False)
            self.assertEqual(made.numbers(), value)

    def test_a_dict_of_a_team_that_never_heals(self):
        for numbers in product(range(1, 4), repeat=2):
            self.assertIs(Heals(COUNTS, [0], 3, dict(zip([(0, 1), (2, 3)], numbers))).holds(), False)

    def test_dicts_changed_behind_the_call_and_the_telling(self):
        team = Team([LINE])
        numbers = healing(team, [0]).numbers()
        made = Heals(team, [0], 4, numbers)
        numbers[(0, 1)] = 9
        made.numbers().clear()
        made.numbers()[(7, 8)] = 1
        self.assertIs(made.holds(), True)
        self.assertEqual(made.numbers(), healing(team, [0]).numbers())
        inner = [1]
        made = Heals(team, [0], 4, {(0, 1): inner, "b": (inner, 2)})
        inner.append(2)
        made.numbers()[(0, 1)].append(3)
        made.numbers()["b"][0].append(4)
        self.assertEqual(made.numbers(), {(0, 1): [1], "b": ([1], 2)})
        told = healing(team, [0])
        told.numbers().clear()
        self.assertIs(told.holds(), True)


class NeverPapers(Case):
    def test_all_pairs_and_short_words(self):
        for team in (COUNTS, Team([R2, A3]), Team([bent_ring(4)]), FALLEN, Team([STAY, STAY])):
            joint = team.joint()
            for group in groups(team):
                pairs = pairs_by_words(team, group)
                for pair in product(range(-1, joint.states + 1), repeat=2):
                    for word in words(team.alphabet, 3):
                        right = (pair in pairs and word != ""
                                 and {joint.behind(word, state=state) for state in pair} == set(pair))
                        made = Never(team, group, pair, word)
                        self.assertIs(made.holds(), right)
                        self.assertIs(bool(made), right)

    def test_states_led_to_themselves_and_to_each_other(self):
        self.assertIs(Never(COUNTS, [0], (0, 1), "a").holds(), True)
        self.assertIs(Never(COUNTS, [0], (0, 1), "aa").holds(), True)
        self.assertIs(Never(COUNTS, [0], (0, 1), "b").holds(), False)
        self.assertIs(Never(COUNTS, [1], (0, 2), "b" * 1999).holds(), True)
        # One state stays, the other one goes to it.
        self.assertIs(Never(Team([Machine("ab", [[0, 1], [0, 1]])]), [0], (0, 1), "a").holds(), False)

    def test_pairs_of_every_kind(self):
        for pair in [*ODD_VALUES, [0, 1], (1, 0), (0, 0), (0, 4), (0, 2), (False, 1), (0, True), ("0", "1"), (0, 1, 1), (0,),
                     ((0, 1),), (None, 1), ([0], 1)]:
            made = Never(COUNTS, [0], pair, "aa")
            self.assertIs(made.holds(), False)
            self.assertEqual(made.pair, pair)
            self.assertIs(made.pair.__class__, pair.__class__)

    def test_words_of_every_kind(self):
        for word in ["", *WRONG_WORDS, *ODD_VALUES[:7]]:
            made = Never(COUNTS, [0], (0, 1), word)
            self.assertIs(made.holds(), False)
            self.assertEqual(made.road, word)
            self.assertIs(made.road.__class__, word.__class__)

    def test_lists_within_papers(self):
        inner = [1]
        made = Never(COUNTS, [0], (0, inner), [inner])
        inner.append(2)
        made.pair[1].append(3)
        made.road.append(4)
        made.road[0].append(5)
        self.assertEqual((made.pair, made.road), ((0, [1]), [[1]]))


class Base(Case):
    def test_the_base_class(self):
        for team in TEAMS:
            for group in groups(team):
                made = Healing(team, group)
                self.assertEqual((made.letters, made.told(), repr(made)), (None, "unknown", "Healing(unknown)"))
                self.assertIs(made.holds(), False)
                self.assertIs(bool(made), False)
                self.assertEqual(made.group(), group)
                self.assertIs(made.team, team)
        self.assertIs(Healing(team=COUNTS, group=[1]).holds(), False)

    def test_subclasses(self):
        self.assertTrue(issubclass(Heals, Healing) and issubclass(Never, Healing))
        self.assertFalse(issubclass(Heals, Never) or issubclass(Never, Heals))

    def test_texts(self):
        made = Heals(COUNTS, [0], 12, {})
        self.assertEqual((made.told(), repr(made), made.letters), ("heals within 12 letters",
                                                                  "Healing(heals within 12 letters)", 12))
        made = Heals(COUNTS, [0], 10 ** 31, {})
        self.assertEqual(made.told(), f"heals within {10 ** 31} letters")
        made = Never(COUNTS, [0], (0, 1), "a")
        self.assertEqual((made.told(), repr(made), made.letters), ("never heals", "Healing(never heals)", None))
        self.assertEqual((made.pair, made.road), ((0, 1), "a"))

    def test_by_name(self):
        self.assertIs(Heals(team=COUNTS, group=[], letters=0, numbers={}).holds(), True)
        self.assertIs(Never(team=COUNTS, group=[0], pair=(0, 1), word="a").holds(), True)

    def test_groups_told_and_changed(self):
        for make in (lambda group: Healing(COUNTS, group), lambda group: Heals(COUNTS, group, 1, {}),
                     lambda group: Never(COUNTS, group, (0, 1), "a")):
            group = [0]
            made = make(group)
            group.append(1)
            made.group().append(7)
            self.assertEqual(made.group(), [0])
            self.assertEqual(make((0, 1)).group(), [0, 1])

    def test_properties_cannot_be_assigned(self):
        for made, names in ((Healing(COUNTS, []), ("team", "letters")), (Heals(COUNTS, [], 0, {}), ("team", "letters")),
                            (Never(COUNTS, [0], (0, 1), "a"), ("team", "letters", "pair", "road"))):
            for name in names:
                with self.assertRaises(AttributeError):
                    setattr(made, name, 1)


if __name__ == "__main__":
    unittest.main()
