"""Silent machines that are told again by letters alone."""

from othersknow.machines import is_word
from othersknow.reports import require_group
from othersknow.teams import ascending_pairs, differing
from othersknow.values import copied, is_index, is_pair


def pairs_within(team, group):
    """The ascending list of the pairs of joint states that machines of a group alone tell apart."""
    states = team.joint_states()
    pairs = ascending_pairs(len(states))
    return [(low, high) for low, high in pairs if all([at in group for at in differing(states[low], states[high])])]


def goals_of(moves, pair):
    """For each letter the two states behind those of a pair, the lesser one first; they may be one."""
    return [(min(one, other), max(one, other)) for one, other in zip(moves[pair[0]], moves[pair[1]])]


def open_pairs(team, group):
    """The ascending list of the open pairs of a group."""
    require_group(team, group)
    return pairs_within(team, group)


def healed_by(team, group, word):
    """Whether a word heals each open pair of a group."""
    pairs = open_pairs(team, group)
    joint = team.joint()
    joint.require_word(word)
    ends = [joint.walk(word, state) for state in range(joint.states)]
    return all([ends[low] == ends[high] for low, high in pairs])


class Healing:
    """What is told of the healing of a group; it never changes."""

    def __init__(self, team, group):
        require_group(team, group)
        self.held_team = team
        self.held_group = tuple(group)

    @property
    def team(self):
        """The team."""
        return self.held_team

    @property
    def letters(self):
        """The number of letters within which the group heals, if one is told."""
        return None

    def group(self):
        """The list of the machines of the group."""
        return list(self.held_group)

    def holds(self):
        """Whether the papers are right; without papers they are not."""
        return False

    def told(self):
        """The answer as a text."""
        return "unknown"

    def __bool__(self):
        return bool(self.holds())

    def __repr__(self):
        return f"Healing({self.told()})"


class Heals(Healing):
    """The group heals; the paper is a dict from the open pairs to numbers of letters."""

    def __init__(self, team, group, letters, numbers):
        super().__init__(team, group)
        self.most_letters = letters
        self.by_pair = copied(numbers)

    @property
    def letters(self):
        """The number of letters within which the group heals."""
        return self.most_letters

    def numbers(self):
        """The dict from the open pairs to numbers of letters."""
        return copied(self.by_pair)

    def holds(self):
        """Whether the numbers are those of the open pairs, and each letter leads to a smaller one."""
        team = self.held_team
        if not isinstance(self.by_pair, dict):
            return False
        pairs = list(self.by_pair)
        # To Python (False, 1) is the same key as (0, 1), but it is no pair.
        if not all([is_pair(pair, len(team.joint_states())) for pair in pairs]):
            return False
        if sorted(pairs) != pairs_within(team, self.held_group):
            return False
        if not all([is_index(self.by_pair[pair], self.most_letters + 1) for pair in pairs]):
            return False
        moves = team.joint().moves()
        return all([self.by_pair[pair] > self.most_behind(goals_of(moves, pair)) for pair in pairs])

    def most_behind(self, goals):
        """The largest number of some goals, where two states that are one have the number 0."""
        return max([0 if low == high else self.by_pair[(low, high)] for low, high in goals])

    def told(self):
        """The answer as a text."""
        return f"heals within {self.most_letters} letters"

    def __bool__(self):
        return bool(self.holds())

    def __repr__(self):
        return f"Healing({self.told()})"


class Never(Healing):
    """The group never heals; the papers are an open pair and a word that leads it back to itself."""

    def __init__(self, team, group, pair, word):
        super().__init__(team, group)
        self.lasting_pair = copied(pair)
        self.held_word = copied(word)

    @property
    def pair(self):
        """The pair."""
        return copied(self.lasting_pair)

    @property
    def road(self):
        """The word."""
        return copied(self.held_word)

    def holds(self):
        """Whether the pair is open, and the word, which has a letter, leads its states to themselves or each other."""
        team = self.held_team
        pair = self.lasting_pair
        word = self.held_word
        if not is_pair(pair, len(team.joint_states())) or pair not in pairs_within(team, self.held_group):
            return False
        if not is_word(word, team.alphabet) or word == "":
            return False
        ends = tuple([team.joint().walk(word, state) for state in pair])
        return ends == pair or ends == (pair[1], pair[0])

    def told(self):
        """The answer as a text."""
        return "never heals"

    def __bool__(self):
        return bool(self.holds())

    def __repr__(self):
        return f"Healing({self.told()})"


def are_healed(numbers, goals):
    """Whether each two states are one, or a pair that has a number."""
    return all([low == high or (low, high) in numbers for low, high in goals])


def least_numbers(moves, pairs):
    """For each open pair that heals the least number of letters that heals it, whatever they are."""
    numbers = {}
    letters = 0
    fresh = pairs
    while len(fresh) > 0:
        letters += 1
        left = [pair for pair in pairs if pair not in numbers]
        fresh = [pair for pair in left if are_healed(numbers, goals_of(moves, pair))]
        for pair in fresh:
            numbers[pair] = letters
    return numbers


def circle(joint, pairs):
    """One of these pairs and a word that leads it back to itself.

    Each of the pairs has a letter that leads it to one of them.
    """
    moves = joint.moves()
    path = []
    word = ""
    pair = pairs[0]
    while pair not in path:
        path.append(pair)
        steps = [(letter, goal) for letter, goal in zip(joint.alphabet, goals_of(moves, pair)) if goal in pairs]
        letter, pair = steps[0]
        word = word + letter
    return pair, word[path.index(pair):]


def healing(team, group):
    """A Heals with the least numbers of letters, or a Never; it holds."""
    pairs = open_pairs(team, group)
    numbers = least_numbers(team.joint().moves(), pairs)
    lasting = [pair for pair in pairs if pair not in numbers]
    if len(lasting) == 0:
        return Heals(team, group, max(numbers.values(), default=0), {pair: numbers[pair] for pair in pairs})
    pair, word = circle(team.joint(), lasting)
    return Never(team, group, pair, word)
