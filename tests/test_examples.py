"""The examples of the document."""

import doctest
import unittest

COUNTERS = """
>>> from othersknow.machines import Machine
>>> machine = Machine.counter("ab", 3, letter="a")
>>> [machine.behind("abaa"), machine.moves(), machine.far([("a", 10 ** 30)]), machine.word_to(2)]
[0, [[1, 0], [2, 1], [0, 2]], 1, 'aa']
"""

JOINT = """
>>> from othersknow.machines import Machine
>>> from othersknow.teams import Team
>>> team = Team([Machine.ring("ab", 2), Machine.counter("ab", 3, letter="a")])
>>> [len(team.joint_states()), team.distance, team.behind("aab"), team.parting(0, 1)]
[6, 1, (1, 2), [0, 1]]
"""

NEEDS = """
>>> from othersknow.machines import Machine
>>> from othersknow.reports import bearable, need
>>> from othersknow.teams import Team
>>> team = Team([Machine.ring("ab", 2), Machine.counter("ab", 3, letter="a")])
>>> [need(team, silent=1), need(team, wrong=1), bearable(team)]
[1, 2, [(0, 0)]]
"""

REPORTS = """
>>> from othersknow.machines import Machine
>>> from othersknow.reports import fitting, report_of
>>> from othersknow.teams import Team
>>> team = Team([Machine.ring("ab", 2), Machine.counter("ab", 3, letter="a")])
>>> [report_of(team, 5, silent=[0]), fitting(team, (None, 2)), fitting(team, (1, 2), wrong=1)]
[(None, 2), [3, 5], [1, 2, 3, 5]]
"""

# In the document these three read the team from a text.
COUNTS = """
>>> from othersknow.machines import Machine
>>> from othersknow.teams import Team
>>> team = Team([Machine("ab", [[1, 0], [0, 1]]), Machine("ab", [[0, 1], [1, 0]])])
"""

SPARES = COUNTS + """
>>> from othersknow.partitions import quotient
>>> from othersknow.spares import least_spares, useful
>>> [useful(team), least_spares(team, silent=1), quotient(team.joint(), [0, 1, 1, 0]).moves()]
[[[0, 1, 1, 0], [0, 1, 2, 3]], [[0, 1, 1, 0]], [[1, 1], [0, 0]]]
"""

IMAGES = COUNTS + """
>>> from othersknow.partitions import coarsest, image_count
>>> joint = team.joint()
>>> [image_count(joint), coarsest(joint, apart=[(0, 1)])]
[5, [[0, 1, 0, 1], [0, 1, 1, 0]]]
"""

VERDICTS = COUNTS + """
>>> from othersknow.verdicts import Unsafe, verdict
>>> made = verdict(team, silent=1)
>>> [made.told(), made.holds(), isinstance(made, Unsafe)]
['1 silent, 0 wrong', True, True]
"""


class Examples(unittest.TestCase):
    def holds(self, text):
        example = doctest.DocTestParser().get_doctest(text, {}, "example", None, None)
        told = []
        result = doctest.DocTestRunner().run(example, out=told.append)
        self.assertGreater(result.attempted, 0)
        self.assertEqual(result.failed, 0, "".join(told))

    def test_a_machine(self):
        self.holds(COUNTERS)

    def test_a_team(self):
        self.holds(JOINT)

    def test_needs(self):
        self.holds(NEEDS)

    def test_reports(self):
        self.holds(REPORTS)

    def test_spares(self):
        self.holds(SPARES)

    def test_images(self):
        self.holds(IMAGES)

    def test_verdicts(self):
        self.holds(VERDICTS)


if __name__ == "__main__":
    unittest.main()
