"""Teams of machines that read the same letters."""

from othersknow.errors import AlphabetsDiffer, InvalidIndex, InvalidState, NoMachines, TooMany
from othersknow.machines import Machine
from othersknow.values import is_index, is_number


def require_members(machines):
    """Raises an error unless these machines can be in one team."""
    if len(machines) == 0:
        raise NoMachines()
    if len(machines) > Team.MOST:
        raise TooMany(Team.MOST)
    for machine in machines:
        if machine.alphabet != machines[0].alphabet:
            raise AlphabetsDiffer()


def joint_table(machines):
    """The joint states by their numbers, and the lists of the numbers of their goals."""
    tables = [machine.moves() for machine in machines]
    begin = (0,) * len(machines)
    places = {begin: 0}
    order = [begin]
    moves = []
    while len(moves) < len(order):
        rows = [table[state] for table, state in zip(tables, order[len(moves)])]
        goals = []
        for goal in zip(*rows):
            if goal not in places:
                places[goal] = len(order)
                order.append(goal)
            goals.append(places[goal])
        # Looked at here, as machines of a few states may have millions of joint states.
        if len(order) > Team.JOINT:
            raise TooMany(Team.JOINT)
        moves.append(goals)
    return order, moves


def differing(one, other):
    """The ascending list of the places in which two tuples of the same length differ."""
    return [place for place in range(len(one)) if one[place] != other[place]]


def ascending_pairs(size):
    """The ascending list of the pairs (s, t) of numbers below a size, s less than t."""
    return [(low, high) for low in range(size) for high in range(low + 1, size)]


class Team:
    """A team of 1 to 6 machines with at most 24 joint states; it never changes."""

    MOST = 6
    JOINT = 24

    def __init__(self, machines):
        require_members(machines)
        order, moves = joint_table(machines)
        self.members = tuple(machines)
        self.signs = self.members[0].alphabet
        self.joints = order
        self.places = {states: place for place, states in enumerate(order)}
        self.whole = Machine(self.signs, moves)
        sizes = [len(differing(order[low], order[high])) for low, high in ascending_pairs(len(order))]
        self.least = min(sizes, default=None)

    @property
    def alphabet(self):
        """The letters of all machines."""
        return self.signs

    @property
    def distance(self):
        """The least number of machines that tell two joint states apart, or None."""
        return self.least

    def machines(self):
        """The list of the machines."""
        return list(self.members)

    def joint_states(self):
        """The list of the joint states, by their numbers."""
        return list(self.joints)

    def joint(self):
        """The joint machine."""
        return self.whole

    def behind(self, word):
        """The joint state behind a word."""
        return self.joints[self.whole.behind(word)]

    def number_of(self, states):
        """The number of a joint state, or None for any other value."""
        # To Python (True, 0) equals (1, 0), but it is no joint state.
        if not isinstance(states, tuple) or not all([is_number(state) for state in states]):
            return None
        return self.places.get(states)

    def word_to(self, number):
        """The first word that leads to the joint state with a number."""
        return self.whole.word_to(number)

    def parting(self, one, other):
        """The ascending list of the machines that tell two joint states apart."""
        for number in (one, other):
            if not is_index(number, len(self.joints)):
                raise InvalidState(number)
        return differing(self.joints[one], self.joints[other])

    def weakest(self):
        """The ascending list of the pairs of joint states with the least partings."""
        pairs = ascending_pairs(len(self.joints))
        return [(low, high) for low, high in pairs if len(self.parting(low, high)) == self.least]

    def with_machines(self, *more):
        """The team with more machines behind the others."""
        return Team([*self.members, *more])

    def without(self, index):
        """The team without a machine."""
        if not is_index(index, len(self.members)):
            raise InvalidIndex(index)
        # Where there is no other machine, Team itself raises NoMachines.
        return Team([*self.members[:index], *self.members[index + 1:]])

    def __eq__(self, other):
        return isinstance(other, Team) and self.members == other.members

    def __len__(self):
        return len(self.members)

    def __repr__(self):
        return f"Team({len(self.members)} machines, {len(self.joints)} joint states)"
