"""The page of a roster."""

from othersknow.errors import ParseError, TeamError
from othersknow.roster import Roster
from othersknow.texts import team_text


def write_roster(roster):
    """The page of a roster."""
    return "".join([f"{name} {team_text(roster.team_named(name))}\n" for name in roster.names()])


def read_roster(text):
    """The roster with a page."""
    # What is no text has no line that is right.
    if not isinstance(text, str):
        raise ParseError(0)
    *lines, rest = text.split("\n")
    roster = Roster(limit=Roster.MOST)
    for index, line in enumerate(lines):
        name, space, team = line.partition(" ")
        try:
            roster.apply(("team", name, team))
        except TeamError:
            raise ParseError(index) from None
    if rest != "":
        raise ParseError(len(lines))
    roster.forget()
    return roster
