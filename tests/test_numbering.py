"""Teams whose states are numbered otherwise and whose letters are renamed tell the same numbers."""

import unittest

from helpers import COUNTED_TEAMS, MOST, Case, groups

from othersknow.healing import Never, healing, open_pairs
from othersknow.late import Late
from othersknow.listeners import Listener
from othersknow.machines import Machine
from othersknow.partitions import image_count
from othersknow.reports import bearable, need
from othersknow.spares import least_spares
from othersknow.teams import Team
from othersknow.ticks import Ticks
from othersknow.verdicts import verdict


def numbered_otherwise(machine, turn):
    """The machine whose states, apart from the state 0, are numbered otherwise."""
    size = machine.states
    others = list(range(1, size))
    order = [0, *others[:turn], *others[turn:][::-1]]
    places = {state: place for place, state in enumerate(order)}
    moves = machine.moves()
    return Machine(machine.alphabet, [[places[goal] for goal in moves[state]] for state in order])


def renamed(machine, alphabet):
    """The machine with other letters in the same order."""
    return Machine(alphabet, machine.moves())


def exchanged(machine):
    """The machine in which the letters have exchanged their meaning."""
    return Machine(machine.alphabet, [goals[::-1] for goals in machine.moves()])


def likenesses(team):
    """Teams that are the same but for the numbers of their states and the names of their letters."""
    many = len(team.alphabet)
    made = [Team([numbered_otherwise(machine, turn) for machine in team.machines()]) for turn in range(3)]
    made.append(Team([renamed(machine, "kxz"[:many]) for machine in team.machines()]))
    made.append(Team([exchanged(machine) for machine in team.machines()]))
    made.append(Team([exchanged(numbered_otherwise(renamed(machine, "mno"[:many]), 1)) for machine in team.machines()]))
    return made


def numbers_of(team):
    """What is told of a team that does not depend on the numbers of its states or the names of its letters."""
    table = Ticks(team)
    far = [0, 1, 2, 3, 17, MOST]
    found = [len(team.joint_states()), team.distance, bearable(team), len(team.weakest()), image_count(team.joint()),
             table.begin, table.period, [table.distance_after(count) for count in far]]
    for silent, wrong in ((0, 0), (1, 0), (0, 1), (2, 0)):
        many = need(team, silent=silent, wrong=wrong)
        found.append([many, verdict(team, silent=silent, wrong=wrong).__class__, table.safe_counts(silent=silent, wrong=wrong)])
        if len(team) + many <= 6:
            found.append(sum(max(blocks) + 1 for blocks in least_spares(team, silent=silent, wrong=wrong)))
    for group in groups(team):
        made = healing(team, group)
        found.append([len(open_pairs(team, group)), made.letters, made.told(), Late(team, group).clear_counts()])
        found.append(None if isinstance(made, Never) else sorted(made.numbers().values()))
    listener = Listener(team)
    for count in far:
        listener.tick(count)
        found.append([len(listener.known()), listener.sure, listener.heard, listener.since])
    return found


class Likenesses(Case):
    def test_the_same_numbers(self):
        for team in COUNTED_TEAMS:
            wanted = numbers_of(team)
            for at, like in enumerate(likenesses(team)):
                with self.subTest(team, at=at):
                    self.assertEqual(numbers_of(like), wanted)

    def test_renamed_letters_alone_change_nothing_else(self):
        for team in COUNTED_TEAMS:
            like = Team([renamed(machine, "kxz"[:len(team.alphabet)]) for machine in team.machines()])
            self.assertEqual(like.joint_states(), team.joint_states())
            for group in groups(team):
                for count in (0, 1, 2, MOST):
                    self.assertEqual(Late(like, group).late_pair(count), Late(team, group).late_pair(count))
                    self.assertEqual(Ticks(like).spread([0], count), Ticks(team).spread([0], count))
                self.assertEqual(open_pairs(like, group), open_pairs(team, group))

    def test_the_teams_are_numbered_otherwise(self):
        for team in COUNTED_TEAMS:
            if max(machine.states for machine in team.machines()) > 2:
                self.assertNotEqual(likenesses(team)[0], team)


if __name__ == "__main__":
    unittest.main()
