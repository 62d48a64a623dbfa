"""The errors of the package; `tag` is the name of the class."""

from othersknow.values import copied


class TeamError(ValueError):
    """The base class of the errors about values that do not fit."""


class Missing(LookupError):
    """The base class of the errors about what is not there."""


class InvalidAlphabet(TeamError):
    """What should be an alphabet is none."""

    def __init__(self):
        self.tag = "InvalidAlphabet"


class InvalidStates(TeamError):
    """There are not 1 to 24 states."""

    def __init__(self, given):
        self.tag = "InvalidStates"
        self.given = copied(given)


class InvalidMove(TeamError):
    """The list of the state with this index has not one goal for each letter."""

    def __init__(self, index):
        self.tag = "InvalidMove"
        self.index = copied(index)


class InvalidState(TeamError):
    """What should be a state, or the number of a joint state, is none."""

    def __init__(self, given):
        self.tag = "InvalidState"
        self.given = copied(given)


class InvalidWord(TeamError):
    """What should be a word, or a letter, is none."""

    def __init__(self, given):
        self.tag = "InvalidWord"
        self.given = copied(given)


class InvalidCount(TeamError):
    """What should be a count is none, or is too large."""

    def __init__(self, given):
        self.tag = "InvalidCount"
        self.given = copied(given)


class InvalidIndex(TeamError):
    """There is no machine with this index."""

    def __init__(self, given):
        self.tag = "InvalidIndex"
        self.given = copied(given)


class InvalidGroup(TeamError):
    """What should be a group of machines is none."""

    def __init__(self):
        self.tag = "InvalidGroup"


class InvalidReport(TeamError):
    """What should be a report of the team is none."""

    def __init__(self):
        self.tag = "InvalidReport"


class InvalidPartition(TeamError):
    """What should be a partition, or an image, is none."""

    def __init__(self):
        self.tag = "InvalidPartition"


class InvalidPairs(TeamError):
    """What should be a list of pairs of states is none."""

    def __init__(self):
        self.tag = "InvalidPairs"


class InvalidText(TeamError):
    """What should be a text is not of its form."""

    def __init__(self):
        self.tag = "InvalidText"


class NoMachines(TeamError):
    """A team needs a machine."""

    def __init__(self):
        self.tag = "NoMachines"


class AlphabetsDiffer(TeamError):
    """The machines of a team have different alphabets."""

    def __init__(self):
        self.tag = "AlphabetsDiffer"


class TooMany(TeamError):
    """There are more than this most."""

    def __init__(self, most):
        self.tag = "TooMany"
        self.most = copied(most)


class Refused(TeamError):
    """No known joint state fits the report."""

    def __init__(self):
        self.tag = "Refused"


class InvalidName(TeamError):
    """What should be a name is none."""

    def __init__(self, name):
        self.tag = "InvalidName"
        self.name = copied(name)


class DuplicateName(TeamError):
    """A team has this name already."""

    def __init__(self, name):
        self.tag = "DuplicateName"
        self.name = copied(name)


class CapacityExceeded(TeamError):
    """There are as many teams as the limit, or more."""

    def __init__(self, limit):
        self.tag = "CapacityExceeded"
        self.limit = copied(limit)


class InvalidLimit(TeamError):
    """What should be a limit is none, or is too small."""

    def __init__(self, given):
        self.tag = "InvalidLimit"
        self.given = copied(given)


class InvalidCommand(TeamError):
    """What should be a command is none; word is its first item, or None."""

    def __init__(self, word):
        self.tag = "InvalidCommand"
        self.word = copied(word)


class ParseError(TeamError):
    """The line with this index is wrong."""

    def __init__(self, line):
        self.tag = "ParseError"
        self.line = copied(line)


class UnknownName(Missing):
    """No team has this name."""

    def __init__(self, name):
        self.tag = "UnknownName"
        self.name = copied(name)


class NothingLeft(IndexError):
    """There is nothing that can be taken back or made again."""

    def __init__(self):
        self.tag = "NothingLeft"
