"""The examples of the document."""

import doctest
import unittest

COUNTERS = """
>>> from othersknow.machines import Machine
>>> machine = Machine.counter("ab", 3, letter="a")
>>> [machine.behind("abaa"), machine.moves(), machine.far([("a", 10 ** 30)]), machine.word_to(2)]
[0, [[1, 0], [2, 1], [0, 2]], 1, 'aa']
"""

JOINT = """
>>> from othersknow.machines import Machine
>>> from othersknow.teams import Team
>>> team = Team([Machine.ring("ab", 2), Machine.counter("ab", 3, letter="a")])
>>> [len(team.joint_states()), team.distance, team.behind("aab"), team.parting(0, 1)]
[6, 1, (1, 2), [0, 1]]
"""

NEEDS = """
>>> from othersknow.machines import Machine
>>> from othersknow.reports import bearable, need
>>> from othersknow.teams import Team
>>> team = Team([Machine.ring("ab", 2), Machine.counter("ab", 3, letter="a")])
>>> [need(team, silent=1), need(team, wrong=1), bearable(team)]
[1, 2, [(0, 0)]]
"""

REPORTS = """
>>> from othersknow.machines import Machine
>>> from othersknow.reports import fitting, report_of
>>> from othersknow.teams import Team
>>> team = Team([Machine.ring("ab", 2), Machine.counter("ab", 3, letter="a")])
>>> [report_of(team, 5, silent=[0]), fitting(team, (None, 2)), fitting(team, (1, 2), wrong=1)]
[(None, 2), [3, 5], [1, 2, 3, 5]]
"""

# In the document those that follow read the team from a text.
COUNTS = """
>>> from othersknow.machines import Machine
>>> from othersknow.teams import Team
>>> team = Team([Machine("ab", [[1, 0], [0, 1]]), Machine("ab", [[0, 1], [1, 0]])])
"""

SPARES = COUNTS + """
>>> from othersknow.partitions import quotient
>>> from othersknow.spares import least_spares, useful
>>> [useful(team), least_spares(team, silent=1), quotient(team.joint(), [0, 1, 1, 0]).moves()]
[[[0, 1, 1, 0], [0, 1, 2, 3]], [[0, 1, 1, 0]], [[1, 1], [0, 0]]]
"""

IMAGES = COUNTS + """
>>> from othersknow.partitions import coarsest, image_count
>>> joint = team.joint()
>>> [image_count(joint), coarsest(joint, apart=[(0, 1)])]
[5, [[0, 1, 0, 1], [0, 1, 1, 0]]]
"""

VERDICTS = COUNTS + """
>>> from othersknow.verdicts import Unsafe, verdict
>>> made = verdict(team, silent=1)
>>> [made.told(), made.holds(), isinstance(made, Unsafe)]
['1 silent, 0 wrong', True, True]
"""

TICKS = COUNTS + """
>>> from othersknow.ticks import Ticks
>>> table = Ticks(team)
>>> [table.begin, table.period, table.distance_after(0), table.distance_after(2), table.safe_counts(silent=1)]
[1, 2, None, 2, [True, True, True]]
"""

LATE = COUNTS + """
>>> from othersknow.late import Late
>>> made = Late(team, [0])
>>> [made.clear(0), made.late_pair(1)]
[True, (0, 1, 2, 0)]
"""

HEALING = """
>>> from othersknow.machines import Machine
>>> from othersknow.teams import Team
>>> from othersknow.healing import healing, open_pairs
>>> team = Team([Machine("a", [[1], [1]]), Machine("a", [[1], [0]])])
>>> [open_pairs(team, [0]), healing(team, [0]).letters, healing(team, [1]).told()]
[[(0, 2)], 1, 'never heals']
"""

LISTENERS = COUNTS + """
>>> from othersknow.listeners import Listener
>>> listener = Listener(team)
>>> listener.tick(2)
>>> first = listener.known()
>>> listener.hear((1, None))
>>> [first, listener.known(), listener.state(), listener.since]
[[0, 3], [3], (1, 1), 0]
"""


class Examples(unittest.TestCase):
    def holds(self, text):
        example = doctest.DocTestParser().get_doctest(text, {}, "example", None, None)
        told = []
        result = doctest.DocTestRunner().run(example, out=told.append)
        self.assertGreater(result.attempted, 0)
        self.assertEqual(result.failed, 0, "".join(told))

    def test_a_machine(self):
        self.holds(COUNTERS)

    def test_a_team(self):
        self.holds(JOINT)

    def test_needs(self):
        self.holds(NEEDS)

    def test_reports(self):
        self.holds(REPORTS)

    def test_spares(self):
        self.holds(SPARES)

    def test_images(self):
        self.holds(IMAGES)

    def test_verdicts(self):
        self.holds(VERDICTS)

    def test_ticks(self):
        self.holds(TICKS)

    def test_late_reports(self):
        self.holds(LATE)

    def test_healing(self):
        self.holds(HEALING)

    def test_listeners(self):
        self.holds(LISTENERS)


if __name__ == "__main__":
    unittest.main()
