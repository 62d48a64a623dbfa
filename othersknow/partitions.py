"""Partitions of the states of a machine, and its images."""

from othersknow.errors import InvalidPairs, InvalidPartition, TooMany
from othersknow.machines import Machine
from othersknow.values import is_list, is_number, is_pair

MOST_IMAGES = 300


def numbered(labels):
    """The partition in which equal labels make a block."""
    places = {}
    for label in labels:
        if label not in places:
            places[label] = len(places)
    return [places[label] for label in labels]


def first_states(blocks):
    """For each state the first state of its block."""
    return [blocks.index(block) for block in blocks]


def is_partition(machine, value):
    """Whether any value is a partition of the states of a machine."""
    if not is_list(value) or len(value) != machine.states:
        return False
    return all([is_number(block) for block in value]) and numbered(value) == list(value)


def is_image(machine, value):
    """Whether any value is an image of a machine."""
    if not is_partition(machine, value):
        return False
    # In an image each state goes where the first state of its block goes.
    moves = machine.moves()
    goals = [[value[goal] for goal in row] for row in moves]
    return all([goals[state] == goals[first] for state, first in enumerate(first_states(value))])


def require_partition(machine, blocks):
    """Raises an error for what is no partition."""
    if not is_partition(machine, blocks):
        raise InvalidPartition()


def require_image(machine, blocks):
    """Raises an error for what is no image."""
    if not is_image(machine, blocks):
        raise InvalidPartition()


def require_pairs(machine, pairs):
    """Raises an error for what is no list of pairs of states."""
    if not is_list(pairs) or not all([is_pair(pair, machine.states) for pair in pairs]):
        raise InvalidPairs()


def united(moves, heads, pairs):
    """The image with the most blocks that joins the states of each pair.

    The heads are, for each state, the first state of its block in an image where the joining begins.
    """
    todo = list(pairs)
    while len(todo) > 0:
        one, other = todo.pop()
        low, high = heads[one], heads[other]
        if low != high:
            heads = [low if head == high else head for head in heads]
            # The states behind the heads stand for those behind all states of the two blocks.
            todo.extend(list(zip(moves[low], moves[high])))
    return numbered(heads)


def finest(machine):
    """The partition into single states."""
    return list(range(machine.states))


def closed(machine, blocks, more):
    """The closure of a partition that also joins the states of more pairs."""
    pairs = list(enumerate(first_states(blocks)))
    return united(machine.moves(), finest(machine), [*pairs, *more])


def closure(machine, blocks):
    """The image with the most blocks in which the blocks of a partition stay whole."""
    require_partition(machine, blocks)
    return closed(machine, blocks, [])


def joined(machine, blocks, one, other):
    """The closure of the partition in which the blocks of two states are one."""
    require_partition(machine, blocks)
    machine.require_state(one)
    machine.require_state(other)
    return closed(machine, blocks, [(one, other)])


def met(machine, one, other):
    """The partition with the fewest blocks that joins two states only if both do."""
    require_partition(machine, one)
    require_partition(machine, other)
    return numbered(list(zip(one, other)))


def quotient(machine, blocks):
    """The machine that has the blocks of an image as states."""
    require_image(machine, blocks)
    moves = machine.moves()
    firsts = [blocks.index(block) for block in range(max(blocks) + 1)]
    return Machine(machine.alphabet, [[blocks[goal] for goal in moves[state]] for state in firsts])


def separates(blocks, pairs):
    """Whether a partition puts the states of each pair into different blocks."""
    for one, other in pairs:
        if blocks[one] == blocks[other]:
            return False
    return True


def coarser(moves, pairs, blocks, fixed):
    """The images that join blocks of an image, none of its first states, and the states of no pair.

    They are made in ascending order. The image itself separates the pairs, so each branch has an image at its end.
    """
    if fixed == len(blocks):
        yield list(blocks)
        return
    heads = first_states(blocks)
    after = fixed + 1
    for block in range(blocks[fixed]):
        # If the image with the most blocks fails, all others fail, too.
        fresh = united(moves, heads, [(blocks.index(block), fixed)])
        if fresh[:fixed] == blocks[:fixed] and separates(fresh, pairs):
            yield from coarser(moves, pairs, fresh, after)
    yield from coarser(moves, pairs, blocks, after)


def images(machine, *, apart=()):
    """A generator of all images that put the states of each pair into different blocks, in ascending order."""
    require_pairs(machine, apart)
    moves = machine.moves()
    pairs = list(apart)
    blocks = finest(machine)
    if separates(blocks, pairs):
        yield from coarser(moves, pairs, blocks, 0)


def few_images(machine, apart):
    """The list of all these images, if there are at most 300."""
    found = []
    for blocks in images(machine, apart=apart):
        found.append(blocks)
        if len(found) > MOST_IMAGES:
            raise TooMany(MOST_IMAGES)
    return found


def image_count(machine, *, apart=()):
    """How many images put the states of each pair into different blocks."""
    return len(few_images(machine, apart))


def is_coarsest(machine, blocks, *, apart=()):
    """Whether an image separates the pairs, and no closure of a partition that joins two of its blocks does."""
    require_image(machine, blocks)
    require_pairs(machine, apart)
    if not separates(blocks, apart):
        return False
    moves = machine.moves()
    heads = first_states(blocks)
    firsts = sorted(set(heads))
    for pair in [(low, high) for low in firsts for high in firsts if low < high]:
        if separates(united(moves, heads, [pair]), apart):
            return False
    return True


def coarsest(machine, *, apart=()):
    """The list of the coarsest images, in ascending order."""
    return [blocks for blocks in few_images(machine, apart) if is_coarsest(machine, blocks, apart=apart)]
