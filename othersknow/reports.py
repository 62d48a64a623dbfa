"""Reports of a team, and how many silent and wrong machines it bears."""

from othersknow.errors import InvalidCount, InvalidGroup, InvalidReport
from othersknow.values import climbs, is_count, is_index, is_list


def is_group(team, value):
    """Whether any value is an ascending list of different indexes of machines."""
    return is_list(value) and all([is_index(index, len(team)) for index in value]) and climbs(value)


def require_group(team, group):
    """Raises an error for what is no group."""
    if not is_group(team, group):
        raise InvalidGroup()


def require_count(count):
    """Raises an error unless this is a number from 0 to 10 ** 30."""
    if not is_count(count):
        raise InvalidCount(count)


def require_counts(silent, wrong):
    """Raises an error unless there can be so many silent and so many wrong machines."""
    require_count(silent)
    require_count(wrong)


def is_report(team, value):
    """Whether any value is a report of a team."""
    if not isinstance(value, tuple) or len(value) != len(team):
        return False
    return all([told is None or is_index(told, machine.states) for told, machine in zip(value, team.machines())])


def fits(states, report, wrong):
    """Whether a joint state differs from at most so many of the states in a report."""
    differing_ones = [told for told, state in zip(report, states) if told is not None and told != state]
    return len(differing_ones) <= wrong


def report_of(team, number, *, silent=()):
    """The report that all machines make in a joint state, apart from a group, which is silent."""
    team.joint().require_state(number)
    require_group(team, silent)
    states = team.joint_states()[number]
    return tuple([None if index in silent else state for index, state in enumerate(states)])


def fitting(team, report, *, wrong=0):
    """The ascending list of the numbers of the joint states that fit a report."""
    if not is_report(team, report):
        raise InvalidReport()
    require_count(wrong)
    return [number for number, states in enumerate(team.joint_states()) if fits(states, report, wrong)]


def wanted_distance(silent, wrong):
    """The least distance with which a team is safe for so many silent and so many wrong machines."""
    return silent + 2 * wrong + 1


def is_safe(team, *, silent=0, wrong=0):
    """Whether a team is safe for so many silent and so many wrong machines."""
    require_counts(silent, wrong)
    return team.distance is None or wanted_distance(silent, wrong) <= team.distance


def need(team, *, silent=0, wrong=0):
    """How many further machines a team needs at least."""
    if is_safe(team, silent=silent, wrong=wrong):
        return 0
    return wanted_distance(silent, wrong) - team.distance


def bearable(team):
    """The list of the pairs (silent, wrong) that a team bears, and not with one silent machine more."""
    if team.distance is None:
        return []
    most = team.distance - 1
    return [(most - 2 * wrong, wrong) for wrong in range(most // 2 + 1)]
