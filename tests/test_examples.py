"""The examples of the document, as they stand there."""

import doctest
import unittest

COUNTERS = """
>>> from othersknow.machines import Machine
>>> machine = Machine.counter("ab", 3, letter="a")
>>> [machine.behind("abaa"), machine.moves(), machine.far([("a", 10 ** 30)]), machine.word_to(2)]
[0, [[1, 0], [2, 1], [0, 2]], 1, 'aa']
"""

JOINT = """
>>> from othersknow.machines import Machine
>>> from othersknow.teams import Team
>>> team = Team([Machine.ring("ab", 2), Machine.counter("ab", 3, letter="a")])
>>> [len(team.joint_states()), team.distance, team.behind("aab"), team.parting(0, 1)]
[6, 1, (1, 2), [0, 1]]
"""

NEEDS = """
>>> from othersknow.machines import Machine
>>> from othersknow.reports import bearable, need
>>> from othersknow.teams import Team
>>> team = Team([Machine.ring("ab", 2), Machine.counter("ab", 3, letter="a")])
>>> [need(team, silent=1), need(team, wrong=1), bearable(team)]
[1, 2, [(0, 0)]]
"""

REPORTS = """
>>> from othersknow.machines import Machine
>>> from othersknow.reports import fitting, report_of
>>> from othersknow.teams import Team
>>> team = Team([Machine.ring("ab", 2), Machine.counter("ab", 3, letter="a")])
>>> [report_of(team, 5, silent=[0]), fitting(team, (None, 2)), fitting(team, (1, 2), wrong=1)]
[(None, 2), [3, 5], [1, 2, 3, 5]]
"""

SPARES = """
>>> from othersknow.partitions import quotient
>>> from othersknow.spares import least_spares, useful
>>> from othersknow.texts import machine_text, read_team
>>> team = read_team("ab 1,0 0,1 / ab 0,1 1,0")
>>> [useful(team), least_spares(team, silent=1), machine_text(quotient(team.joint(), [0, 1, 1, 0]))]
[[[0, 1, 1, 0], [0, 1, 2, 3]], [[0, 1, 1, 0]], 'ab 1,1 0,0']
"""

IMAGES = """
>>> from othersknow.partitions import coarsest, image_count
>>> from othersknow.texts import read_team
>>> joint = read_team("ab 1,0 0,1 / ab 0,1 1,0").joint()
>>> [image_count(joint), coarsest(joint, apart=[(0, 1)])]
[5, [[0, 1, 0, 1], [0, 1, 1, 0]]]
"""

VERDICTS = """
>>> from othersknow.texts import read_team
>>> from othersknow.verdicts import Unsafe, verdict
>>> made = verdict(read_team("ab 1,0 0,1 / ab 0,1 1,0"), silent=1)
>>> [made.told(), made.holds(), isinstance(made, Unsafe)]
['1 silent, 0 wrong', True, True]
"""

TICKS = """
>>> from othersknow.texts import read_team
>>> from othersknow.ticks import Ticks
>>> table = Ticks(read_team("ab 1,0 0,1 / ab 0,1 1,0"))
>>> [table.begin, table.period, table.distance_after(0), table.distance_after(2), table.safe_counts(silent=1)]
[1, 2, None, 2, [True, True, True]]
"""

LATE = """
>>> from othersknow.late import Late
>>> from othersknow.texts import read_team
>>> made = Late(read_team("ab 1,0 0,1 / ab 0,1 1,0"), [0])
>>> [made.clear(0), made.late_pair(1)]
[True, (0, 1, 2, 0)]
"""

HEALING = """
>>> from othersknow.healing import healing, open_pairs
>>> from othersknow.texts import read_team
>>> team = read_team("a 1 1 / a 1 0")
>>> [open_pairs(team, [0]), healing(team, [0]).letters, healing(team, [1]).told()]
[[(0, 2)], 1, 'never heals']
"""

LISTENERS = """
>>> from othersknow.listeners import Listener
>>> from othersknow.texts import read_team
>>> listener = Listener(read_team("ab 1,0 0,1 / ab 0,1 1,0"))
>>> listener.tick(2)
>>> first = listener.known()
>>> listener.hear((1, None))
>>> [first, listener.known(), listener.state(), listener.since]
[[0, 3], [3], (1, 1), 0]
"""

TEXTS = """
>>> from othersknow.machines import Machine
>>> from othersknow.teams import Team
>>> from othersknow.texts import report_text, team_text
>>> team = Team([Machine.counter("ab", 2, letter="a"), Machine.counter("ab", 2, letter="b")])
>>> [team_text(team), report_text((1, None))]
['ab 1,0 0,1 / ab 0,1 1,0', '1,-']
"""

DESKS = """
>>> from othersknow.desk import Desk
>>> desk = Desk()
>>> lines = ["team b ab 1,0 0,1 / ab 0,1 1,0", "spare b 1 0", "show b", "distance b", "undo", "safe b 1 0"]
>>> [desk.say(line) for line in lines]
['ok', 'ok', 'ab 1,0 0,1 / ab 0,1 1,0 / ab 1,1 0,0', '2', 'ok', 'no']
"""


class Examples(unittest.TestCase):
    def holds(self, text):
        example = doctest.DocTestParser().get_doctest(text, {}, "example", None, None)
        told = []
        result = doctest.DocTestRunner().run(example, out=told.append)
        self.assertGreater(result.attempted, 0)
        self.assertEqual(result.failed, 0, "".join(told))

    def test_a_machine(self):
        self.holds(COUNTERS)

    def test_a_team(self):
        self.holds(JOINT)

    def test_needs(self):
        self.holds(NEEDS)

    def test_reports(self):
        self.holds(REPORTS)

    def test_spares(self):
        self.holds(SPARES)

    def test_images(self):
        self.holds(IMAGES)

    def test_verdicts(self):
        self.holds(VERDICTS)

    def test_ticks(self):
        self.holds(TICKS)

    def test_late_reports(self):
        self.holds(LATE)

    def test_healing(self):
        self.holds(HEALING)

    def test_listeners(self):
        self.holds(LISTENERS)

    def test_texts(self):
        self.holds(TEXTS)

    def test_desks(self):
        self.holds(DESKS)


if __name__ == "__main__":
    unittest.main()
