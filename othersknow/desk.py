"""Desks, which answer lines."""

from othersknow.errors import InvalidText, Missing, NothingLeft, TeamError
from othersknow.healing import healing
from othersknow.late import Late
from othersknow.reports import fitting, is_safe, need, require_count
from othersknow.roster import COMMANDS, Roster
from othersknow.texts import read_number, read_report, team_text
from othersknow.values import copied


def plain_word(word):
    """A word that may be any word."""
    return word


def long_text(text):
    """A text of two or more words."""
    if " " not in text:
        raise InvalidText()
    return text


def one_number(text):
    """The number with a text."""
    return read_number(text)


def one_group(text):
    """The list of numbers with a text."""
    return [] if text == "-" else [read_number(word) for word in text.split(",")]


def one_report(text):
    """The tuple of numbers and None with a text."""
    return read_report(text)


# A table of functions of this file, each of which raises InvalidText for what is not of its form.
READERS = {"word": plain_word, "text": long_text, "number": one_number, "group": one_group, "report": one_report}
# What stands behind the first word of a line.
FORMS = {
    "team": ("word", "text"),
    "add": ("word", "text"),
    "copy": ("word", "word"),
    "spare": ("word", "number", "number"),
    "remove": ("word", "number"),
    "rename": ("word", "word"),
    "drop": ("word",),
    "undo": (),
    "redo": (),
    "names": (),
    "show": ("word",),
    "distance": ("word",),
    "need": ("word", "number", "number"),
    "safe": ("word", "number", "number"),
    "after": ("word", "number"),
    "late": ("word", "group", "number"),
    "heals": ("word", "group"),
    "read": ("word", "number", "report"),
}


def parsed(line):
    """The first word of a line, and the list of what stands behind it."""
    words = line.split(" ") if isinstance(line, str) else [""]
    word = words[0]
    if "" in words or word not in FORMS:
        raise InvalidText()
    kinds = FORMS[word]
    # A text takes all words that are left.
    parts = [*words[1:2], " ".join(words[2:])] if "text" in kinds else words[1:]
    if len(parts) != len(kinds):
        raise InvalidText()
    operands = []
    for kind, part in zip(kinds, parts):
        reader = READERS[kind]
        operands.append(reader(part))
    return word, operands


def listed(items):
    """Some items with spaces between, or a word for none."""
    return " ".join([str(item) for item in items]) if len(items) > 0 else "none"


def number_or(number, other):
    """A number as a text, or another text for None."""
    return other if number is None else str(number)


def yes_or_no(answer):
    """A text for True or False."""
    return "yes" if answer else "no"


def undo_line(roster):
    """Takes a step back."""
    roster.undo()
    return "ok"


def redo_line(roster):
    """Makes a step again."""
    roster.redo()
    return "ok"


def names_line(roster):
    """Tells the names."""
    return listed(roster.names())


def show_line(roster, name):
    """Tells the text of a team."""
    return team_text(roster.team_named(name))


def distance_line(roster, name):
    """Tells the distance of a team."""
    return number_or(roster.team_named(name).distance, "none")


def need_line(roster, name, silent, wrong):
    """Tells how many further machines a team needs."""
    return str(need(roster.team_named(name), silent=silent, wrong=wrong))


def safe_line(roster, name, silent, wrong):
    """Tells whether a team is safe."""
    return yes_or_no(is_safe(roster.team_named(name), silent=silent, wrong=wrong))


def after_line(roster, name, count):
    """Tells the distance of a team after so many letters."""
    roster.team_named(name)
    # Looked at before the table is made, as an error keeps none.
    require_count(count)
    return number_or(roster.ticks(name).distance_after(count), "none")


def late_line(roster, name, group, count):
    """Tells whether a late report is clear."""
    return yes_or_no(Late(roster.team_named(name), group).clear(count))


def heals_line(roster, name, group):
    """Tells within how many letters a group heals."""
    return number_or(healing(roster.team_named(name), group).letters, "never")


def read_line(roster, name, wrong, report):
    """Tells which joint states fit a report."""
    return listed(fitting(roster.team_named(name), report, wrong=wrong))


# What answers the lines that are no commands of a roster.
ANSWERS = {"undo": undo_line, "redo": redo_line, "names": names_line, "show": show_line, "distance": distance_line,
           "need": need_line, "safe": safe_line, "after": after_line, "late": late_line, "heals": heals_line,
           "read": read_line}


def answered(roster, word, operands):
    """The answer to a line that is not invalid."""
    if word in COMMANDS:
        roster.apply((word, *operands))
        return "ok"
    action = ANSWERS[word]
    return action(roster, *operands)


def answer_to(roster, line):
    """The answer to any line."""
    try:
        word, operands = parsed(line)
    except InvalidText:
        return "invalid"
    try:
        return answered(roster, word, operands)
    except (TeamError, Missing, NothingLeft) as error:
        return f"error {error.tag}"


class Desk:
    """A desk that answers lines about a roster."""

    def __init__(self, *, roster=None):
        # A roster without teams has no length, but it is one.
        self.held_roster = Roster() if roster is None else roster
        self.answers = []

    def say(self, line):
        """The answer to a line."""
        answer = answer_to(self.held_roster, line)
        self.answers.append((copied(line), answer))
        return answer

    def __call__(self, line):
        """The same as say."""
        return self.say(line)

    def roster(self):
        """The roster itself."""
        return self.held_roster

    def log(self):
        """The list of the pairs of a line and its answer."""
        return copied(self.answers)

    def __len__(self):
        return len(self.answers)
