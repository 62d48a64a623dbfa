import unittest
from itertools import product
from unittest import mock

from helpers import (A2, A3, B2, COUNTED_TEAMS, COUNTS, DEEP_LIST, DEEP_TUPLE, LINE, MOST, R2, RINGS, STAY, WRONG_COUNTS, Case,
                     all_reports, bent_ring, letter_words, wrong_ones)

from othersknow.errors import InvalidCount, InvalidReport, NothingLeft, Refused
from othersknow.listeners import Listener
from othersknow.machines import Machine
from othersknow.reports import bearable, fitting
from othersknow.teams import Team
from othersknow.ticks import Ticks

THREE = Team([A2, B2, R2])
TELLING = Team([A2, B2, R2, R2])
WRONG_REPORTS = [(), (0,), (0, 0, 0), (2, 0), (0, -1), (True, 0), (0, False), ("0", 0), ((0,), 0), ([0], 0), [0, 0],
                 [None, None], [], None, True, False, "00", "", "--", ((0, 0),), [(0, 0)], DEEP_LIST, DEEP_TUPLE]


def told(listener):
    """All that a listener tells of itself."""
    return (listener.known(), listener.sure, listener.state(), listener.heard, listener.since, listener.busy, len(listener))


def all_back(listener):
    """What it tells behind each step back, down to the beginning."""
    found = [told(listener)]
    while len(listener) > 0:
        listener.back()
        found.append(told(listener))
    return found


def histories(team, late):
    """The joint states in which a history may begin."""
    return list(range(len(team.joint_states()))) if late else [0]


def agreeing(team, items, wrong, late):
    """The joint states of all histories that agree with ticks and reports, letter by letter, by the words of the document."""
    joint, states = team.joint(), team.joint_states()
    many = sum(item for item in items if isinstance(item, int))
    found = set()
    for start in histories(team, late):
        for word in letter_words(team, many):
            place = 0
            fits = True
            for item in items:
                if isinstance(item, int):
                    place += item
                else:
                    behind = joint.behind(word[:place], state=start)
                    fits = fits and wrong_ones(states[behind], item) <= wrong
            if fits:
                found.add(joint.behind(word, state=start))
    return sorted(found)


class Beginning(Case):
    def test_a_listener_knows_the_beginning(self):
        for team in COUNTED_TEAMS:
            made = Listener(team)
            self.assertEqual(told(made), ([0], True, (0,) * len(team), 0, 0, False, 0))
            self.assertEqual((made.team, made.wrong), (team, 0))
            self.assertIs(made.team, team)

    def test_a_late_listener_knows_nothing(self):
        for team in COUNTED_TEAMS:
            made = Listener(team, late=True)
            size = len(team.joint_states())
            if size == 1:
                self.assertEqual(told(made), ([0], True, (0,) * len(team), 0, 0, False, 0))
            else:
                self.assertEqual(told(made), (list(range(size)), False, None, 0, None, False, 0))

    def test_arguments(self):
        made = Listener(team=COUNTS, wrong=MOST, late=True)
        self.assertEqual((made.wrong, made.known()), (MOST, [0, 1, 2, 3]))
        self.assertEqual(Listener(COUNTS, late=False).known(), [0])
        for value in WRONG_COUNTS:
            self.gives(InvalidCount, value, Listener, COUNTS, wrong=value)
            self.gives(InvalidCount, value, Listener, COUNTS, wrong=value, late=True)
        with self.assertRaises(TypeError):
            Listener(COUNTS, 1)

    def test_properties_cannot_be_assigned(self):
        made = Listener(COUNTS)
        for name in ("team", "wrong", "sure", "heard", "since", "busy"):
            with self.assertRaises(AttributeError):
                setattr(made, name, 1)


class Knowing(Case):
    def test_known_against_all_words_that_agree(self):
        for team in (COUNTS, Team([A2, A2]), Team([bent_ring(4)]), Team([STAY, R2]), Team([LINE]),
                     Team([Machine("a", [[1], [1]]), Machine("a", [[1], [0]])])):
            reports = all_reports(team)
            chosen = reports[::max(1, len(reports) // 4)]
            for items in product([0, 1, 2, *chosen], repeat=3):
                for wrong in (0, 1):
                    for late in (False, True):
                        known = agreeing(team, items, wrong, late)
                        with self.subTest(team, items=items, wrong=wrong, late=late):
                            made = Listener(team, wrong=wrong, late=late)
                            before = told(made)
                            if known:
                                made.hear_all(*items)
                                self.assertEqual(made.known(), known)
                                self.assertEqual(made.state(), team.joint_states()[known[0]] if len(known) == 1 else None)
                                self.assertIs(made.sure, len(known) == 1)
                            else:
                                self.fails(Refused, made.hear_all, *items)
                                self.assertEqual(told(made), before)

    def test_one_by_one_and_at_once(self):
        for team in (COUNTS, THREE, Team([RINGS, A2])):
            reports = all_reports(team)[::3]
            for items in product([0, 1, 3, MOST, *reports[:4]], repeat=3):
                one, other = Listener(team, late=True), Listener(team, late=True)
                try:
                    other.hear_all(*items)
                except Refused:
                    with self.assertRaises(Refused):
                        one.hear_all(*items)
                    continue
                for item in items:
                    if isinstance(item, int):
                        one.tick(item)
                    else:
                        one.hear(item)
                self.assertEqual((one.known(), one.heard, one.state()), (other.known(), other.heard, other.state()))
                self.assertEqual((len(one), len(other)), (3, 1))

    def test_all_reports(self):
        for team in COUNTED_TEAMS:
            for wrong in (0, 1, 2):
                for report in all_reports(team)[::7]:
                    fitted = [number for number, states in enumerate(team.joint_states())
                              if wrong_ones(states, report) <= wrong]
                    made = Listener(team, wrong=wrong, late=True)
                    if fitted:
                        made.hear(report)
                        self.assertEqual(made.known(), fitted)
                    else:
                        self.fails(Refused, made.hear, report)

    def test_ticks_of_thirty_digits(self):
        for team in COUNTED_TEAMS:
            table = Ticks(team)
            for count in (MOST, MOST - 1, 123456789012345678901234567890):
                made = Listener(team)
                made.tick(count)
                self.assertEqual((made.known(), made.heard), (table.behind(0, count), count))
                made.tick(count)
                self.assertEqual((made.known(), made.heard), (table.spread(table.behind(0, count), count), 2 * count))

    def test_written_out(self):
        made = Listener(COUNTS)
        made.tick(2)
        first = made.known()
        made.hear((1, None))
        self.assertEqual([first, made.known(), made.state(), made.since], [[0, 3], [3], (1, 1), 0])
        made.tick()
        self.assertEqual(told(made), ([1, 2], False, None, 3, 1, False, 3))
        made.tick(count=3)
        self.assertEqual(told(made), ([0, 3], False, None, 6, 4, False, 4))
        made.hear(report=(None, None))
        self.assertEqual(told(made), ([0, 3], False, None, 6, 4, False, 5))
        made.hear_all((None, 0), 0)
        self.assertEqual(told(made), ([0], True, (0, 0), 6, 0, False, 6))


class Again(Case):
    def test_what_a_safe_team_tells_a_late_listener(self):
        for team in (TELLING, THREE, Team([A3] * 5), Team([R2, A3]), COUNTS):
            for silent, wrong in bearable(team):
                for states in team.joint_states():
                    for report in all_reports(team)[::3]:
                        if report.count(None) <= silent and wrong_ones(states, report) <= wrong:
                            made = Listener(team, wrong=wrong, late=True)
                            made.hear(report)
                            self.assertEqual(made.state(), states)

    def test_what_a_listener_knows_again_behind_letters(self):
        for team in (COUNTS, THREE, TELLING, Team([bent_ring(4)] * 2), Team([A2, A2, B2]), Team([bent_ring(5), A2])):
            table = Ticks(team)
            begun = [begun_at(team, states) for states in team.joint_states()]
            for count in range(4):
                for silent, wrong in ((0, 0), (1, 0), (0, 1), (1, 1), (2, 0)):
                    with self.subTest(team, count=count, silent=silent, wrong=wrong):
                        again = all([knows_again(other, count, silent, wrong) for other in begun])
                        self.assertIs(again, table.is_safe(count, silent=silent, wrong=wrong))


def swapped(machine, state):
    """The machine that begins in a state: this one and the state 0 have exchanged their numbers."""
    numbers = {0: state, state: 0}
    moves = machine.moves()
    return Machine(machine.alphabet, [[numbers.get(goal, goal) for goal in moves[numbers.get(at, at)]]
                                      for at in range(machine.states)])


def begun_at(team, states):
    """The team that begins in a joint state."""
    return Team([swapped(machine, state) for machine, state in zip(team.machines(), states)])


def knows_again(team, count, silent, wrong):
    """Whether a listener that counts letters from the beginning on is told the joint state by each bearable report."""
    joint, states = team.joint(), team.joint_states()
    for number in {joint.behind(word) for word in letter_words(team, count)}:
        for report in all_reports(team):
            if report.count(None) <= silent and wrong_ones(states[number], report) <= wrong:
                made = Listener(team, wrong=wrong)
                made.tick(count)
                made.hear(report)
                if made.state() != states[number]:
                    return False
    return True


class Calls(Case):
    def test_since_behind_each_call(self):
        made = Listener(COUNTS)
        steps = [(made.tick, 0, 0, 0), (made.tick, 1, 1, 1), (made.hear, (None, None), 1, 1), (made.tick, 0, 1, 1),
                 (made.tick, 5, 6, 6), (made.hear, (0, None), 6, 0), (made.hear, (0, 0), 6, 0), (made.tick, 2, 8, 2)]
        for at, (call, item, heard, since) in enumerate(steps):
            call(item)
            self.assertEqual((made.heard, made.since, len(made), made.busy), (heard, since, at + 1, False))

    def test_since_of_a_late_listener(self):
        made = Listener(COUNTS, late=True)
        made.tick(3)
        made.hear((None, 1))
        made.tick(2)
        self.assertEqual((made.heard, made.since, made.sure), (5, None, False))
        made.hear((1, 1))
        self.assertEqual((made.heard, made.since, made.sure), (5, 0, True))
        made.tick(MOST)
        made.tick(MOST)
        self.assertEqual((made.heard, made.since), (5 + 2 * MOST, 2 * MOST))

    def test_sure_only_within_a_call(self):
        made = Listener(COUNTS, late=True)
        made.hear_all(1, (1, 1), 2)
        self.assertEqual(told(made), ([0, 3], False, None, 3, None, False, 1))
        made.hear_all(2, (0, 0))
        self.assertEqual(told(made), ([0], True, (0, 0), 5, 0, False, 2))
        made.hear_all(2, (0, 0), 1, (None, None), 4)
        self.assertEqual(told(made), ([1, 2], False, None, 12, 7, False, 3))
        made.hear_all((1, 0), 1)
        self.assertEqual((made.heard, made.since), (13, 8))
        made.hear_all(1, (1, None), 0)
        self.assertEqual((made.heard, made.since), (14, 0))

    def test_ticks_of_a_ring_stay_sure(self):
        made = Listener(Team([R2, Machine.ring("ab", 5)]))
        for count in (1, 0, 7, MOST):
            made.tick(count)
            self.assertEqual((made.sure, made.since), (True, 0))
        self.assertEqual(made.state(), ((8 + MOST) % 2, (8 + MOST) % 5))
        made = Listener(Team([STAY]), late=True)
        self.assertEqual((made.sure, made.since), (True, 0))

    def test_busy_while_items_are_taken(self):
        for items in (((0, None), 1), ((0, 0), (1, 1)), ((0, 0), -1)):
            made = Listener(COUNTS)
            seen = []
            with mock.patch("othersknow.listeners.fitting", lambda *rest, **more: seen.append(made.busy) or fitting(*rest, **more)):
                try:
                    made.hear_all(*items)
                except (Refused, InvalidCount):
                    pass
            self.assertEqual((seen[0], made.busy), (True, False))

    def test_a_call_without_items(self):
        made = Listener(COUNTS)
        made.tick()
        before = told(made)
        made.hear_all()
        self.assertEqual(told(made), (*before[:6], 2))
        made.back()
        self.assertEqual(told(made), before)

    def test_each_method_returns_none(self):
        made = Listener(COUNTS)
        self.assertIsNone(made.tick(2))
        self.assertIsNone(made.hear((0, 0)))
        self.assertIsNone(made.hear_all(1, (1, 0)))
        self.assertIsNone(made.back())

    def test_returned_and_passed_values(self):
        made = Listener(COUNTS, late=True)
        made.known().clear()
        made.known().append(9)
        self.assertEqual(made.known(), [0, 1, 2, 3])
        made.hear((0, None))
        made.known().clear()
        self.assertEqual(made.known(), [0, 2])
        self.assertIsInstance(Listener(COUNTS).state(), tuple)


class WrongItems(Case):
    def states(self):
        """Listeners in several states."""
        for wrong in (0, 1):
            for late in (False, True):
                made = Listener(COUNTS, wrong=wrong, late=late)
                yield made
                made = Listener(COUNTS, wrong=wrong, late=late)
                made.tick(3)
                made.hear((1, None))
                made.hear_all(2, (None, 1), 1)
                yield made

    def stays(self, made, error, call, *items):
        before, twin = told(made), made.twin()
        caught = self.fails(error, call, *items)
        self.assertEqual(told(made), before)
        self.assertEqual(all_back(made.twin()), all_back(twin))
        return caught

    def test_wrong_counts(self):
        for made in self.states():
            for value in WRONG_COUNTS:
                given = self.stays(made, InvalidCount, made.tick, value).given
                self.assertEqual((given, given.__class__), (value, value.__class__))

    def test_wrong_reports(self):
        for made in self.states():
            for value in [*WRONG_REPORTS, 0, 1, -1, MOST + 1]:
                self.stays(made, InvalidReport, made.hear, value)

    def test_wrong_items(self):
        for made in self.states():
            for value in WRONG_REPORTS:
                self.stays(made, InvalidReport, made.hear_all, value)
                self.stays(made, InvalidReport, made.hear_all, 1, (None, None), value, -1)
            for value in (-1, MOST + 1, -MOST, 10 ** 31 - 1):
                self.assertEqual(self.stays(made, InvalidCount, made.hear_all, value).given, value)
                self.assertEqual(self.stays(made, InvalidCount, made.hear_all, 2, (None, None), value, None).given, value)

    def test_the_error_of_the_first_wrong_item(self):
        made = Listener(COUNTS)
        self.stays(made, Refused, made.hear_all, (1, 0), -1, None)
        self.stays(made, InvalidReport, made.hear_all, 1, True, (0, 0), -1)
        self.assertEqual(self.stays(made, InvalidCount, made.hear_all, 1, -1, (0, 0), None).given, -1)
        self.stays(made, Refused, made.hear_all, 1, (0, 0), -1)
        self.stays(made, InvalidReport, made.hear_all, 1, (1, None), [0, 0], (0, 0))

    def test_refused(self):
        for team in (COUNTS, Team([R2, A3]), Team([A2, A2])):
            for wrong in (0, 1):
                for report in all_reports(team):
                    made = Listener(team, wrong=wrong)
                    made.tick(2)
                    known = [number for number in made.known() if wrong_ones(team.joint_states()[number], report) <= wrong]
                    if known:
                        made.hear(report)
                        self.assertEqual(made.known(), known)
                    else:
                        self.stays(made, Refused, made.hear, report)
                        self.stays(made, Refused, made.hear_all, report)
                        self.stays(made, Refused, made.hear_all, 0, report, 1)

    def test_a_report_that_only_the_wrong_machines_of_the_listener_allow(self):
        self.stays(Listener(COUNTS), Refused, Listener(COUNTS).hear, (1, 0))
        made = Listener(COUNTS, wrong=1)
        made.hear((1, 0))
        self.assertEqual(made.known(), [0])
        self.stays(made, Refused, made.hear, (1, 1))
        made = Listener(COUNTS, wrong=2)
        made.hear((1, 1))
        self.assertEqual(made.known(), [0])


class Back(Case):
    def test_back_through_all_calls(self):
        made = Listener(COUNTS, late=True)
        found = [told(made)]
        for call in (lambda: made.tick(0), lambda: made.hear((1, None)), lambda: made.hear_all(), lambda: made.tick(MOST),
                     lambda: made.hear_all(1, (1, None), 3, (0, 0)), lambda: made.tick(), lambda: made.hear((None, 1)),
                     lambda: made.hear_all(2, 2, 2)):
            call()
            found.append(told(made))
        self.assertEqual(len(made), 8)
        self.assertEqual(all_back(made), found[::-1])
        self.fails(NothingLeft, made.back)
        self.assertEqual(told(made), found[0])

    def test_back_and_on_again(self):
        made = Listener(COUNTS)
        made.tick(1)
        made.tick(2)
        made.back()
        made.hear((1, None))
        self.assertEqual(told(made), ([1], True, (1, 0), 1, 0, False, 2))
        made.back()
        self.assertEqual(told(made), ([1, 2], False, None, 1, 1, False, 1))
        self.fails(Refused, made.hear, (1, 1))
        made.back()
        self.assertEqual(told(made), ([0], True, (0, 0), 0, 0, False, 0))
        self.fails(NothingLeft, made.back)

    def test_many_calls(self):
        made = Listener(COUNTS)
        found = []
        for at in range(1200):
            found.append(told(made))
            if at % 5 == 4:
                made.hear(COUNTS.joint_states()[made.known()[at % 2]])
            else:
                made.tick(at)
        self.assertEqual(len(made), 1200)
        self.assertEqual(all_back(made)[1:], found[::-1])
        self.fails(NothingLeft, made.back)

    def test_nothing_left(self):
        for late in (False, True):
            made = Listener(COUNTS, late=late)
            before = told(made)
            self.assertEqual(self.fails(NothingLeft, made.back).tag, "NothingLeft")
            self.assertEqual(told(made), before)


class Twins(Case):
    def test_a_twin_is_in_the_same_state(self):
        for wrong in (0, 1):
            made = Listener(COUNTS, wrong=wrong, late=True)
            made.tick(3)
            made.hear((1, 1))
            made.hear_all(2)
            fresh = made.twin()
            self.assertEqual((fresh.team, fresh.wrong, told(fresh)), (COUNTS, wrong, told(made)))
            self.assertEqual(all_back(fresh), all_back(made))

    def test_twins_led_elsewhere(self):
        made = Listener(COUNTS)
        made.tick(2)
        before = told(made)
        one = made.twin()
        other = one.twin()
        made.hear((1, 1))
        one.back()
        other.tick(5)
        third = other.twin()
        third.back()
        third.back()
        self.assertEqual(told(made), ([3], True, (1, 1), 2, 0, False, 2))
        self.assertEqual(told(one), ([0], True, (0, 0), 0, 0, False, 0))
        self.assertEqual(told(other), ([1, 2], False, None, 7, 7, False, 2))
        self.assertEqual(told(third), ([0], True, (0, 0), 0, 0, False, 0))
        made.back()
        self.assertEqual(told(made), before)
        other.back()
        self.assertEqual(told(other), before)
        self.fails(NothingLeft, one.back)
        one.tick(1)
        self.assertEqual((len(one), len(made), len(other), len(third)), (1, 1, 1, 0))

    def test_a_twin_of_a_new_listener(self):
        made = Listener(COUNTS, wrong=1, late=True)
        fresh = made.twin()
        fresh.hear((1, 1))
        self.assertEqual((made.known(), fresh.known()), ([0, 1, 2, 3], [1, 2, 3]))
        self.assertEqual(Listener(COUNTS).twin().known(), [0])


if __name__ == "__main__":
    unittest.main()
