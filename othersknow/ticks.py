"""Joint states behind letters that are only counted."""

from othersknow.errors import InvalidCount, InvalidState
from othersknow.reports import require_count, require_counts, wanted_distance
from othersknow.teams import differing
from othersknow.values import is_index, is_list, is_pair

MOST_LISTED_COUNT = 400

# A mask is a number that stands for a set of joint states: its bit n is 1 if the joint state n is in the set.
# A relation has, for each joint state, the mask of those behind it.


def mask_of(numbers):
    """The mask of a list of different numbers."""
    return sum([1 << number for number in numbers])


def numbers_in(mask):
    """The ascending list of the numbers in a mask."""
    return [number for number in range(mask.bit_length()) if mask >> number & 1]


def union(masks):
    """The mask of the numbers that are in any of several masks."""
    whole = 0
    for mask in masks:
        whole = whole | mask
    return whole


def all_relations(moves):
    """The relations for 0, 1 and so on letters, until one comes again, and the least number of letters of that one."""
    relation = tuple([mask_of([state]) for state in range(len(moves))])
    places = {}
    while relation not in places:
        places[relation] = len(places)
        # One letter, and behind it as many as before.
        relation = tuple([union([relation[goal] for goal in goals]) for goals in moves])
    return list(places), places[relation]


def places_of(items, wanted):
    """The ascending list of the places of an item."""
    return [place for place, item in enumerate(items) if item == wanted]


def masks_by_parting(team):
    """For each size that a parting has, ascending, the masks of what is parted so from each joint state."""
    states = team.joint_states()
    sizes = [[len(differing(one, other)) for other in states] for one in states]
    found = sorted(set([size for row in sizes for size in row if size > 0]))
    return [(size, [mask_of(places_of(row, size)) for row in sizes]) for size in found]


def has_such_two(behind, masks):
    """Whether a mask has two joint states of which one is in the other one's mask."""
    return any([behind >> number & 1 and behind & mask for number, mask in enumerate(masks)])


class Ticks:
    """The table of the joint states that are k steps behind others, for all k; it never changes."""

    def __init__(self, team):
        self.held_team = team
        self.relations, self.first = all_relations(team.joint().moves())
        self.parted = masks_by_parting(team)

    @property
    def team(self):
        """The team."""
        return self.held_team

    @property
    def begin(self):
        """The least number of letters from which on the relations come again."""
        return self.first

    @property
    def period(self):
        """The number of letters after which they do."""
        return len(self.relations) - self.first

    def behind(self, number, count):
        """The ascending list of the numbers of the joint states that are so many steps behind one."""
        return self.spread([number], count)

    def spread(self, numbers, count):
        """The ascending list of the numbers of the joint states that are so many steps behind any of a list."""
        # What is no list has no numbers, so it is told itself.
        if not is_list(numbers):
            raise InvalidState(numbers)
        for number in numbers:
            self.held_team.joint().require_state(number)
        require_count(count)
        relation = self.relation_after(count)
        return numbers_in(union([relation[number] for number in numbers]))

    def distance_after(self, count):
        """The least number of machines that part two joint states so many steps behind the same one, or None."""
        require_count(count)
        masks = sorted(set(self.relation_after(count)))
        for size, parted in self.parted:
            if any([has_such_two(behind, parted) for behind in masks]):
                return size
        return None

    def is_safe(self, count, *, silent=0, wrong=0):
        """Whether a report tells the joint state to a listener that knew it so many letters ago."""
        require_count(count)
        require_counts(silent, wrong)
        distance = self.distance_after(count)
        return distance is None or wanted_distance(silent, wrong) <= distance

    def safe_counts(self, *, silent=0, wrong=0):
        """The list of the answers of is_safe for each number of letters before the relations come again."""
        return [self.is_safe(count, silent=silent, wrong=wrong) for count in range(len(self.relations))]

    def relation_after(self, count):
        """The relation for so many letters."""
        if count < len(self.relations):
            return self.relations[count]
        return self.relations[self.first + (count - self.first) % self.period]

    def __eq__(self, other):
        return isinstance(other, Ticks) and self.held_team == other.held_team

    def __repr__(self):
        return f"Ticks(begin {self.first}, period {self.period})"


def relation_holds(team, count, pairs):
    """Whether any value is the ascending list of the pairs (s, t) such that t is so many steps behind s."""
    if not is_index(count, MOST_LISTED_COUNT + 1):
        raise InvalidCount(count)
    relation = Ticks(team).relation_after(count)
    if not is_list(pairs) or not all([is_pair(pair, len(relation)) for pair in pairs]):
        return False
    return list(pairs) == [(number, behind) for number, mask in enumerate(relation) for behind in numbers_in(mask)]
