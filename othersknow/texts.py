"""The texts of machines, teams and reports."""

from othersknow.errors import InvalidText, TeamError
from othersknow.machines import Machine
from othersknow.teams import Team

MOST_DIGITS = 31


def number_in(word):
    """The number that is written in a word, without a needless zero, or None."""
    if not 1 <= len(word) <= MOST_DIGITS or not all([digit in "0123456789" for digit in word]):
        return None
    if word[0] == "0" and word != "0":
        return None
    return int(word)


def machine_text(machine):
    """The text of a machine."""
    words = [",".join([str(goal) for goal in goals]) for goals in machine.moves()]
    return " ".join([machine.alphabet, *words])


def team_text(team):
    """The text of a team."""
    return " / ".join([machine_text(machine) for machine in team.machines()])


def read_machine(text):
    """The machine with a text."""
    if not isinstance(text, str):
        raise InvalidText()
    alphabet, *words = text.split(" ")
    # What is no number is no state either, so the machine itself refuses it.
    moves = [[number_in(goal) for goal in word.split(",")] for word in words]
    try:
        return Machine(alphabet, moves)
    except TeamError:
        raise InvalidText() from None


def read_team(text):
    """The team with a text."""
    if not isinstance(text, str):
        raise InvalidText()
    machines = [read_machine(part) for part in text.split(" / ")]
    return Team(machines)


def report_text(report):
    """The text of a tuple of numbers and None."""
    return ",".join(["-" if told is None else str(told) for told in report])


def read_number(text):
    """The number with a text, which has no needless zero."""
    number = number_in(text) if isinstance(text, str) else None
    if number is None:
        raise InvalidText()
    return number


def read_report(text):
    """The tuple of numbers and None with a text."""
    if not isinstance(text, str):
        raise InvalidText()
    return tuple([None if word == "-" else read_number(word) for word in text.split(",")])
