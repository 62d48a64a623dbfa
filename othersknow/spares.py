"""Further machines that make a team safe."""

from othersknow.errors import InvalidPartition, TooMany
from othersknow.partitions import few_images, is_image, quotient
from othersknow.reports import need, require_counts, wanted_distance
from othersknow.teams import Team, ascending_pairs
from othersknow.values import is_list

MOST_LISTS = 20000


def useful(team):
    """The list of the useful images of the joint machine, in ascending order."""
    return few_images(team.joint(), team.weakest())


def list_count(size, many):
    """How many ascending lists of so many out of a number of items there are, repeated ones among them."""
    count = 1
    for step in range(many):
        count = count * (size + step) // (step + 1)
    return count


def in_one_block(blocks, pairs):
    """For each pair 1 if its states are in one block, otherwise 0."""
    return [1 if blocks[one] == blocks[other] else 0 for one, other in pairs]


def cheapest(losses, costs, left, many, first):
    """The first ascending tuple of so many indexes with the least costs.

    No index is below the first one, and no item of left is less than the losses of these indexes in its place. The last
    index has no losses, so there is such a tuple.
    """
    if many == 0:
        return ()
    found = []
    for index in range(first, len(costs)):
        rest = [have - lost for have, lost in zip(left, losses[index])]
        if all([have >= 0 for have in rest]):
            found.append((index, *cheapest(losses, costs, rest, many - 1, index)))
    # Of equal costs the first one is taken.
    return min(found, key=lambda row: sum([costs[at] for at in row]))


def least_spares(team, *, silent=0, wrong=0):
    """A spare list with as many images as the need, with the fewest blocks in all."""
    many = need(team, silent=silent, wrong=wrong)
    if many == 0:
        return []
    if len(team) + many > Team.MOST:
        raise TooMany(Team.MOST)
    choices = useful(team)
    if list_count(len(choices), many) > MOST_LISTS:
        raise TooMany(MOST_LISTS)
    # So few of the images may join the states of a pair; a pair that all of them may join asks for nothing.
    spaces = [(pair, len(team.parting(*pair)) - team.distance) for pair in ascending_pairs(len(team.joint_states()))]
    pairs = [pair for pair, space in spaces if space < many]
    left = [space for pair, space in spaces if space < many]
    losses = [in_one_block(blocks, pairs) for blocks in choices]
    costs = [max(blocks) + 1 for blocks in choices]
    return [list(choices[index]) for index in cheapest(losses, costs, left, many, 0)]


def are_spares(team, value, *, silent=0, wrong=0):
    """Whether any value is a spare list."""
    require_counts(silent, wrong)
    if not is_list(value) or not all([is_image(team.joint(), blocks) for blocks in value]):
        return False
    wanted = wanted_distance(silent, wrong)
    for one, other in ascending_pairs(len(team.joint_states())):
        apart = [blocks for blocks in value if blocks[one] != blocks[other]]
        if len(team.parting(one, other)) + len(apart) < wanted:
            return False
    return True


def with_spares(team, blocks):
    """The team with the quotients of a list of images behind its machines."""
    # What is no list has no images.
    if not is_list(blocks):
        raise InvalidPartition()
    more = [quotient(team.joint(), image) for image in blocks]
    return team.with_machines(*more)
