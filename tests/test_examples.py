"""The examples of the document."""

import doctest
import unittest

COUNTERS = """
>>> from othersknow.machines import Machine
>>> machine = Machine.counter("ab", 3, letter="a")
>>> [machine.behind("abaa"), machine.moves(), machine.far([("a", 10 ** 30)]), machine.word_to(2)]
[0, [[1, 0], [2, 1], [0, 2]], 1, 'aa']
"""

JOINT = """
>>> from othersknow.machines import Machine
>>> from othersknow.teams import Team
>>> team = Team([Machine.ring("ab", 2), Machine.counter("ab", 3, letter="a")])
>>> [len(team.joint_states()), team.distance, team.behind("aab"), team.parting(0, 1)]
[6, 1, (1, 2), [0, 1]]
"""


class Examples(unittest.TestCase):
    def holds(self, text):
        example = doctest.DocTestParser().get_doctest(text, {}, "example", None, None)
        told = []
        result = doctest.DocTestRunner().run(example, out=told.append)
        self.assertGreater(result.attempted, 0)
        self.assertEqual(result.failed, 0, "".join(told))

    def test_a_machine(self):
        self.holds(COUNTERS)

    def test_a_team(self):
        self.holds(JOINT)


if __name__ == "__main__":
    unittest.main()
