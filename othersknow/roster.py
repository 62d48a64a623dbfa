"""Rosters of named teams, with steps that can be undone and tables that are kept."""

from othersknow.errors import (CapacityExceeded, DuplicateName, InvalidCommand, InvalidIndex, InvalidLimit, InvalidName,
                               NothingLeft, UnknownName)
from othersknow.spares import least_spares, with_spares
from othersknow.texts import read_machine, read_team
from othersknow.ticks import Ticks
from othersknow.values import is_number

MOST_NAME_LETTERS = 6


def is_name(value):
    """Whether any value is a name."""
    if not isinstance(value, str) or not 1 <= len(value) <= MOST_NAME_LETTERS:
        return False
    return all(["a" <= letter <= "z" for letter in value])


def named(teams, name):
    """The team with a name."""
    # A value that is no name, such as a list, cannot be looked up.
    if not is_name(name) or name not in teams:
        raise UnknownName(name)
    return teams[name]


def require_fresh(teams, name):
    """Raises an error unless this is a name that no team has."""
    if not is_name(name):
        raise InvalidName(name)
    if name in teams:
        raise DuplicateName(name)


def require_space(teams, limit):
    """Raises an error unless there may be a team more."""
    if len(teams) >= limit:
        raise CapacityExceeded(limit)


def tables_of(tables, teams):
    """Those of some tables whose name has a team that is equal to the table's one."""
    return {name: table for name, table in tables.items() if name in teams and teams[name] == table.team}


# Each of the functions for commands gives the teams behind a command, and leaves those before it as they are.


def team_command(teams, limit, name, text):
    """Adds the team with a text."""
    require_fresh(teams, name)
    require_space(teams, limit)
    return {**teams, name: read_team(text)}


def copy_command(teams, limit, name, fresh):
    """Adds a team that has the machines of another one."""
    team = named(teams, name)
    require_fresh(teams, fresh)
    require_space(teams, limit)
    return {**teams, fresh: team}


def add_command(teams, limit, name, text):
    """Puts the machine with a text behind those of a team."""
    team = named(teams, name)
    return {**teams, name: team.with_machines(read_machine(text))}


def spare_command(teams, limit, name, silent, wrong):
    """Puts the quotients of the least spares behind the machines of a team."""
    team = named(teams, name)
    return {**teams, name: with_spares(team, least_spares(team, silent=silent, wrong=wrong))}


def remove_command(teams, limit, name, index):
    """Removes a machine from a team."""
    team = named(teams, name)
    # Any other wrong index is found by the team itself.
    if len(team) == 1:
        raise InvalidIndex(index)
    return {**teams, name: team.without(index)}


def rename_command(teams, limit, name, fresh):
    """Gives a team another name at its place."""
    named(teams, name)
    require_fresh(teams, fresh)
    return {fresh if key == name else key: team for key, team in teams.items()}


def drop_command(teams, limit, name):
    """Removes a team."""
    named(teams, name)
    return {key: team for key, team in teams.items() if key != name}


COMMANDS = {"team": team_command, "copy": copy_command, "add": add_command, "spare": spare_command,
            "remove": remove_command, "rename": rename_command, "drop": drop_command}
# The number of items of a command, its word among them.
SIZES = {"team": 3, "copy": 3, "add": 3, "spare": 4, "remove": 3, "rename": 3, "drop": 2}


def require_command(value):
    """Raises an error for what is no command."""
    word = value[0] if isinstance(value, tuple) and len(value) > 0 else None
    if not isinstance(word, str) or word not in SIZES or len(value) != SIZES[word]:
        raise InvalidCommand(word)


class Roster:
    """Teams by name, in the order in which they were added."""

    MOST = 12

    def __init__(self, *, limit=10):
        if not is_number(limit) or not 1 <= limit <= Roster.MOST:
            raise InvalidLimit(limit)
        self.most_teams = limit
        # A dict of teams is never changed, so that steps and twins may share it.
        self.teams = {}
        self.past = []
        self.future = []
        self.tables = {}
        self.times_computed = 0
        self.applying = False

    @property
    def limit(self):
        """How many teams there may be."""
        return self.most_teams

    @limit.setter
    def limit(self, value):
        """Sets how many teams there may be."""
        self.set_limit(value)

    def set_limit(self, value):
        """Sets how many teams there may be."""
        if not is_number(value) or not max(1, len(self.teams)) <= value <= Roster.MOST:
            raise InvalidLimit(value)
        self.most_teams = value

    @property
    def busy(self):
        """Whether commands are being applied."""
        return self.applying

    @property
    def computed(self):
        """How many times a table was computed and kept."""
        return self.times_computed

    def apply(self, *commands):
        """Applies commands as one step, all or none."""
        self.applying = True
        try:
            teams = self.behind_commands(commands)
        finally:
            self.applying = False
        self.past.append(self.teams)
        self.future = []
        self.go_to(teams)

    def behind_commands(self, commands):
        """The teams behind some commands."""
        for command in commands:
            require_command(command)
        teams = self.teams
        for word, *operands in commands:
            action = COMMANDS[word]
            teams = action(teams, self.most_teams, *operands)
        return teams

    def go_to(self, teams):
        """Makes these the teams, and forgets the tables that are not theirs."""
        self.teams = teams
        self.tables = tables_of(self.tables, teams)

    def undo(self):
        """Takes the last step back."""
        if len(self.past) == 0:
            raise NothingLeft()
        self.future.append(self.teams)
        self.go_to(self.past.pop())

    def redo(self):
        """Makes the step that was taken back last again."""
        if len(self.future) == 0:
            raise NothingLeft()
        self.past.append(self.teams)
        self.go_to(self.future.pop())

    def forget(self):
        """Forgets all steps."""
        self.past = []
        self.future = []

    def history(self):
        """The pair of the numbers of steps that can be undone and redone."""
        return len(self.past), len(self.future)

    def names(self):
        """The list of the names, in order."""
        return list(self.teams)

    def team_named(self, name):
        """The team with a name."""
        return named(self.teams, name)

    def ticks(self, name):
        """The table of ticks of a team, which is kept."""
        team = named(self.teams, name)
        if name not in self.tables:
            self.tables[name] = Ticks(team)
            self.times_computed += 1
        return self.tables[name]

    def kept(self):
        """The ascending list of the names with kept tables."""
        return sorted(self.tables)

    def twin(self):
        """An independent roster with the same teams, limit, history and kept tables."""
        fresh = Roster(limit=self.most_teams)
        fresh.teams = self.teams
        fresh.past = list(self.past)
        fresh.future = list(self.future)
        fresh.tables = dict(self.tables)
        fresh.times_computed = self.times_computed
        return fresh

    def __contains__(self, value):
        return is_name(value) and value in self.teams

    def __len__(self):
        return len(self.teams)

    def __eq__(self, other):
        return isinstance(other, Roster) and list(self.teams.items()) == list(other.teams.items())

    def __repr__(self):
        return f"Roster({len(self.teams)} teams)"
