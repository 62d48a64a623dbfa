"""Reports in which some machines state what they were so many letters ago."""

from othersknow.reports import require_count, require_group
from othersknow.teams import differing
from othersknow.ticks import Ticks, mask_of, numbers_in, union
from othersknow.values import is_index


def agreeing(team, places):
    """For each joint state the mask of those that agree with it in some machines; it is one of them itself."""
    told = [tuple([states[place] for place in places]) for states in team.joint_states()]
    return [mask_of([number for number, other in enumerate(told) if other == one]) for one in told]


class Late:
    """The late reports of a group of machines; it never changes."""

    def __init__(self, team, group):
        require_group(team, group)
        others = [index for index in range(len(team)) if index not in group]
        self.held_team = team
        self.held_group = tuple(group)
        self.table = Ticks(team)
        # What the group cannot tell apart before, and all others cannot tell apart now.
        self.before = [numbers_in(mask) for mask in agreeing(team, group)]
        self.rivals = [mask - mask_of([number]) for number, mask in enumerate(agreeing(team, others))]

    @property
    def team(self):
        """The team."""
        return self.held_team

    def group(self):
        """The list of the machines that are late."""
        return list(self.held_group)

    def clear(self, count):
        """Whether no two histories with different joint states now have the same late report."""
        return self.late_pair(count) is None

    def late_pair(self, count):
        """The first late pair in ascending order, or None."""
        require_count(count)
        relation = self.table.relation_after(count)
        for start, behind in enumerate(relation):
            reached = union([relation[other] for other in self.before[start]])
            for end in numbers_in(behind):
                # Looked at first for all histories at once.
                if reached & self.rivals[end]:
                    found = [(other, rival) for other in self.before[start]
                             for rival in numbers_in(relation[other] & self.rivals[end])]
                    return (start, end, *found[0])
        return None

    def clear_counts(self):
        """The list of the answers of clear for each number of letters before the relations come again."""
        return [self.late_pair(count) is None for count in range(self.table.begin + self.table.period)]

    def __repr__(self):
        return f"Late({len(self.held_group)} of {len(self.held_team)} machines)"


def late_pair_holds(team, group, count, value):
    """Whether any value is a late pair of a group for so many letters."""
    require_group(team, group)
    require_count(count)
    states = team.joint_states()
    if not isinstance(value, tuple) or len(value) != 4 or not all([is_index(item, len(states)) for item in value]):
        return False
    start, end, other, rival = value
    relation = Ticks(team).relation_after(count)
    if end not in numbers_in(relation[start]) or rival not in numbers_in(relation[other]) or end == rival:
        return False
    parted_before = differing(states[start], states[other])
    parted_now = differing(states[end], states[rival])
    return all([place not in group for place in parted_before]) and all([place in group for place in parted_now])
