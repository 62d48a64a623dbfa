"""Verdicts about a team, with papers that can be looked at again."""

from othersknow.machines import is_word
from othersknow.reports import fits, is_report, is_safe, wanted_distance
from othersknow.teams import differing
from othersknow.values import copied, is_index, is_list


def is_states(team, value):
    """Whether any value is a tuple of states, one for each machine; a word need not lead to it."""
    if not isinstance(value, tuple) or len(value) != len(team):
        return False
    return all([is_index(state, machine.states) for state, machine in zip(value, team.machines())])


def is_led_inside(team, listed):
    """Whether each letter leads each tuple of states in a list to one in the list."""
    tables = [machine.moves() for machine in team.machines()]
    for states in listed:
        rows = [table[state] for table, state in zip(tables, states)]
        if not all([goals in listed for goals in zip(*rows)]):
            return False
    return True


def are_far_apart(listed, least):
    """Whether each two different tuples in a list differ in at least so many places."""
    return all([one == other or len(differing(one, other)) >= least for one in listed for other in listed])


class Verdict:
    """What is told of a team for so many silent and so many wrong machines; it never changes."""

    def __init__(self, team, silent, wrong):
        self.judged_team = team
        self.most_silent = silent
        self.most_wrong = wrong

    @property
    def team(self):
        """The team."""
        return self.judged_team

    @property
    def silent(self):
        """The number of silent machines."""
        return self.most_silent

    @property
    def wrong(self):
        """The number of wrong machines."""
        return self.most_wrong

    def told(self):
        """The numbers of machines as a text."""
        return f"{self.most_silent} silent, {self.most_wrong} wrong"

    def holds(self):
        """Whether the papers are right; without papers they are not."""
        return False

    def __bool__(self):
        return bool(self.holds())

    def __repr__(self):
        return f"Verdict({self.told()}: unknown)"


class Safe(Verdict):
    """The team is safe; the paper is a list of tuples of states."""

    def __init__(self, team, silent, wrong, states):
        super().__init__(team, silent, wrong)
        self.listed = copied(states)

    def listed_states(self):
        """The list of tuples of states; any other value as it is."""
        listed = copied(self.listed)
        return list(listed) if is_list(listed) else listed

    def holds(self):
        """Whether the list has the beginning, is led nowhere else, and its tuples differ in enough places."""
        listed = self.listed
        team = self.judged_team
        if not is_list(listed) or not all([is_states(team, states) for states in listed]):
            return False
        begin = (0,) * len(team)
        if begin not in listed or not is_led_inside(team, listed):
            return False
        return are_far_apart(listed, wanted_distance(self.most_silent, self.most_wrong))

    def __repr__(self):
        return f"Verdict({self.told()}: safe)"


class Unsafe(Verdict):
    """The team is not safe; the papers are two words and a report that does not tell where they lead."""

    def __init__(self, team, silent, wrong, one, other, report):
        super().__init__(team, silent, wrong)
        self.one_word = copied(one)
        self.other_word = copied(other)
        self.common_report = copied(report)

    @property
    def one(self):
        """One word."""
        return copied(self.one_word)

    @property
    def other(self):
        """The other word."""
        return copied(self.other_word)

    @property
    def report(self):
        """The report."""
        return copied(self.common_report)

    def holds(self):
        """Whether the words lead to different joint states that both fit the report."""
        team = self.judged_team
        report = self.common_report
        words = [self.one_word, self.other_word]
        if not all([is_word(word, team.alphabet) for word in words]) or not is_report(team, report):
            return False
        one, other = [team.joint_states()[team.joint().walk(word, 0)] for word in words]
        if one == other or report.count(None) > self.most_silent:
            return False
        return fits(one, report, self.most_wrong) and fits(other, report, self.most_wrong)

    def __repr__(self):
        return f"Verdict({self.told()}: unsafe)"


def common_report(team, one, other, silent):
    """A report with so many silent machines that tells half of the parting of two joint states as in one of them."""
    parting = team.parting(one, other)
    told = parting[silent:]
    as_other = told[:len(told) // 2]
    report = list(team.joint_states()[one])
    for index in parting[:silent]:
        report[index] = None
    for index in as_other:
        report[index] = team.joint_states()[other][index]
    return tuple(report)


def verdict(team, *, silent=0, wrong=0):
    """A Safe or an Unsafe that holds."""
    if is_safe(team, silent=silent, wrong=wrong):
        return Safe(team, silent, wrong, sorted(team.joint_states()))
    one, other = team.weakest()[0]
    report = common_report(team, one, other, silent)
    return Unsafe(team, silent, wrong, team.word_to(one), team.word_to(other), report)
