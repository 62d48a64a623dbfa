"""What all files ask of the values that they are passed."""

MOST_COUNT = 10 ** 30


def is_number(value):
    """Whether any value is a number."""
    # Python counts True and False as integers, the package does not.
    return isinstance(value, int) and not isinstance(value, bool)


def is_index(value, size):
    """Whether any value is a number from 0 to size - 1."""
    return is_number(value) and 0 <= value < size


def is_count(value):
    """Whether any value is a number from 0 to 10 ** 30."""
    return is_index(value, MOST_COUNT + 1)


def is_list(value):
    """Whether any value may stand where a list is documented."""
    return isinstance(value, (list, tuple))


def is_pair(value, size):
    """Whether any value is a pair of numbers from 0 to size - 1."""
    return isinstance(value, tuple) and len(value) == 2 and all([is_index(item, size) for item in value])


def climbs(items):
    """Whether each item is above the one before it, so that all are different."""
    return all([low < high for low, high in zip(items, items[1:])])


def copied(value):
    """The same value, with new lists and dicts at every depth."""
    if isinstance(value, list):
        return [copied(item) for item in value]
    if isinstance(value, tuple):
        # A tuple itself never changes, but lists within it do.
        return tuple([copied(item) for item in value])
    if isinstance(value, dict):
        return {key: copied(item) for key, item in value.items()}
    return value
