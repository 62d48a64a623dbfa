import re
import unittest

from helpers import COUNTED_TEAMS, COUNTS, DEEP_LIST, DEEP_TUPLE, MOST, Case, groups
from test_roster import ONE, TWO, WIDE, filled, whole
from test_spares import U300, U301
from test_texts import NUMBER, SIGNS

from othersknow.desk import Desk
from othersknow.errors import Missing, NothingLeft, TeamError
from othersknow.healing import healing
from othersknow.late import Late
from othersknow.reports import fitting, is_safe, need
from othersknow.roster import Roster
from othersknow.texts import read_report, report_text, team_text
from othersknow.ticks import Ticks

WORD = "[^ ]+"
TEXT = "[^ ]+( [^ ]+)+"
GROUP = f"(-|{NUMBER}(,{NUMBER})*)"
REPORT = f"({NUMBER}|-)(,({NUMBER}|-))*"
FORMS = [f"team {WORD} {TEXT}", f"add {WORD} {TEXT}", f"copy {WORD} {WORD}", f"spare {WORD} {NUMBER} {NUMBER}",
         f"remove {WORD} {NUMBER}", f"rename {WORD} {WORD}", f"drop {WORD}", "undo", "redo", "names", f"show {WORD}",
         f"distance {WORD}", f"need {WORD} {NUMBER} {NUMBER}", f"safe {WORD} {NUMBER} {NUMBER}", f"after {WORD} {NUMBER}",
         f"late {WORD} {GROUP} {NUMBER}", f"heals {WORD} {GROUP}", f"read {WORD} {NUMBER} {REPORT}"]
LINES = ["team b ab 1,0 0,1 / ab 0,1 1,0", "team b a 0", "add two ab 0,1 1,0", "copy two new", "spare two 1 0", "remove two 0",
         "rename two new", "drop two", "undo", "redo", "names", "show two", "distance two", "need two 1 10", "safe two 0 0",
         "after two 12", "late two 0,1 3", "late two - 0", "heals two 0", "heals two -", "read two 0 -,1", "read two 1 0,0"]
QUESTIONS = ["names", "show two", "distance two", "need two 1 1", "safe two 1 0", "late two 0 1", "heals two 1",
             "read two 0 -,1", "read two 0 -,-"]


def is_valid(line):
    """Whether a line is of a form, by the words of the document."""
    return any(re.fullmatch(form, line, re.DOTALL) for form in FORMS)


def bent(line):
    """The lines that differ from a line in one place."""
    found = []
    for at in range(len(line) + 1):
        found.append(line[:at] + line[at + 1:])
        for sign in SIGNS:
            found.append(line[:at] + sign + line[at:])
            found.append(line[:at] + sign + line[at + 1:])
    return [other for other in found if other != line]


def seen(desk):
    """All that can be seen of the roster of a desk."""
    return whole(desk.roster())


def error_line(call):
    """The answer to a line that asks for an error, or None."""
    try:
        call()
    except (TeamError, Missing, NothingLeft) as caught:
        return f"error {caught.__class__.__name__}"
    return None


class DeskCase(Case):
    def answers(self, desk, *pairs):
        for line, answer in pairs:
            self.assertEqual(desk.say(line), answer, line)

    def keeps(self, desk, line, answer):
        """Looks at an answer that changes nothing."""
        before = seen(desk)
        self.assertEqual(desk.say(line), answer, line)
        self.assertEqual(seen(desk), before)


class Commands(DeskCase):
    def test_each_command_is_a_step(self):
        desk, roster = Desk(), Roster()
        steps = [("team two " + TWO, ("team", "two", TWO)), ("team one " + ONE, ("team", "one", ONE)),
                 ("add one ab 0,1 1,0", ("add", "one", "ab 0,1 1,0")), ("copy one new", ("copy", "one", "new")),
                 ("spare two 1 0", ("spare", "two", 1, 0)), ("remove new 0", ("remove", "new", 0)),
                 ("rename new old", ("rename", "new", "old")), ("drop old", ("drop", "old"))]
        for at, (line, command) in enumerate(steps):
            self.answers(desk, (line, "ok"))
            roster.apply(command)
            self.assertTrue(desk.roster() == roster)
            self.assertEqual(desk.roster().history(), (at + 1, 0))

    def test_undo_and_redo(self):
        desk = Desk()
        self.keeps(desk, "undo", "error NothingLeft")
        self.keeps(desk, "redo", "error NothingLeft")
        self.answers(desk, ("team a a 0", "ok"), ("team b a 0", "ok"), ("names", "a b"), ("undo", "ok"), ("names", "a"),
                     ("undo", "ok"), ("names", "none"), ("redo", "ok"), ("names", "a"), ("redo", "ok"), ("names", "a b"))
        self.assertEqual(desk.roster().history(), (2, 0))
        self.answers(desk, ("undo", "ok"), ("drop a", "ok"), ("redo", "error NothingLeft"))

    def test_errors_of_commands(self):
        desk = Desk(roster=filled(limit=4))
        desk.say("team long " + team_text(U300))
        for line, name in (
                ("team A a 0", "InvalidName"), ("team 7 a 0", "InvalidName"), ("team one x y", "DuplicateName"),
                ("team new a 0", "CapacityExceeded"), ("team new x y", "CapacityExceeded"),
                ("copy nobody one", "UnknownName"), ("copy A B", "UnknownName"), ("copy one B", "InvalidName"),
                ("copy one two", "DuplicateName"), ("copy one one", "DuplicateName"), ("copy one new", "CapacityExceeded"),
                ("add nobody a 0", "UnknownName"), ("add one x y", "InvalidText"), ("add one " + TWO, "InvalidText"),
                ("add one a 0", "AlphabetsDiffer"), ("add ring a 1 2 3 4 5 0", "TooMany"),
                ("spare nobody 1 0", "UnknownName"), (f"spare one {MOST + 1} 0", "InvalidCount"),
                (f"spare one 0 {MOST + 1}", "InvalidCount"), (f"spare one {MOST} 0", "TooMany"),
                ("spare long 2 0", "TooMany"), ("spare one 6 0", "TooMany"),
                ("remove nobody 0", "UnknownName"), ("remove one 0", "InvalidIndex"), ("remove two 2", "InvalidIndex"),
                (f"remove two {'9' * 31}", "InvalidIndex"), ("rename nobody A", "UnknownName"),
                ("rename one A", "InvalidName"), ("rename one two", "DuplicateName"), ("rename one one", "DuplicateName"),
                ("drop nobody", "UnknownName"), ("drop 0", "UnknownName"), ("drop One", "UnknownName")):
            self.keeps(desk, line, f"error {name}")
        desk.roster().limit = 12
        for line, name in (("team new a 0 / b 0", "AlphabetsDiffer"), ("team new x y", "InvalidText"),
                           ("team new a 1", "InvalidText"), ("team new a 0 /", "InvalidText"),
                           ("team new " + " / ".join(["a 0"] * 7), "TooMany"), ("team abcdefg a 0", "InvalidName"),
                           ("team new " + WIDE + " / a 1 2 3 4 5 0", "TooMany")):
            self.keeps(desk, line, f"error {name}")
        desk.say("team wide " + team_text(U301))
        self.keeps(desk, "spare wide 1 0", "error TooMany")

    def test_names_that_are_words_of_lines(self):
        for name in ("undo", "redo", "names", "none", "show", "team", "add", "after", "late", "ok", "error", "drop"):
            desk = Desk()
            self.answers(desk, (f"team {name} {TWO}", "ok"), ("names", name), (f"show {name}", TWO), (f"distance {name}", "1"),
                         (f"copy {name} x", "ok"), (f"late {name} - 0", "yes"), (f"drop {name}", "ok"), ("names", "x"),
                         (f"rename x {name}", "ok"), ("names", name), (f"heals {name} 0", "never"))

    def test_a_roster_of_one_team_named_none(self):
        desk = Desk()
        self.answers(desk, ("names", "none"), ("team none a 0", "ok"), ("names", "none"), ("show none", "a 0"))


class Questions(DeskCase):
    def test_answers_against_the_functions(self):
        for team in COUNTED_TEAMS:
            desk = Desk()
            self.answers(desk, ("team x " + team_text(team), "ok"), ("show x", team_text(team)),
                         ("distance x", "none" if team.distance is None else str(team.distance)))
            for silent in (0, 1, 3):
                for wrong in (0, 1, MOST):
                    self.answers(desk, (f"need x {silent} {wrong}", str(need(team, silent=silent, wrong=wrong))),
                                 (f"safe x {silent} {wrong}", "yes" if is_safe(team, silent=silent, wrong=wrong) else "no"))
            for group in groups(team):
                name = ",".join(str(index) for index in group) or "-"
                letters = healing(team, group).letters
                self.answers(desk, (f"heals x {name}", "never" if letters is None else str(letters)))
                for count in (0, 1, 2, MOST):
                    self.answers(desk, (f"late x {name} {count}", "yes" if Late(team, group).clear(count) else "no"))
            for states in team.joint_states():
                for report in (states, (None,) * len(team), (*states[:-1], None), (0,) * len(team)):
                    for wrong in (0, 1, MOST):
                        numbers = fitting(team, report, wrong=wrong)
                        self.answers(desk, (f"read x {wrong} {report_text(report)}",
                                            " ".join(str(number) for number in numbers) or "none"))
            for count in (0, 1, 2, 10 ** 20, MOST):
                far = Ticks(team).distance_after(count)
                self.answers(desk, (f"after x {count}", "none" if far is None else str(far)))

    def test_written_out(self):
        desk = Desk()
        self.answers(desk, ("team b " + TWO, "ok"), ("spare b 1 0", "ok"), ("show b", TWO + " / ab 1,1 0,0"), ("distance b", "2"),
                     ("undo", "ok"), ("safe b 1 0", "no"), ("safe b 0 0", "yes"), ("need b 1 0", "1"), ("need b 0 2", "4"),
                     ("after b 0", "none"), ("after b 2", "2"), ("late b 0 0", "yes"), ("late b 0 1", "no"),
                     ("late b - 1", "yes"), ("heals b 0,1", "never"), ("heals b -", "0"), ("read b 0 1,-", "1 3"),
                     ("read b 0 -,-", "0 1 2 3"), ("read b 1 0,0", "0 1 2"), ("team c a 1 1 / a 1 0", "ok"), ("heals c 0", "1"),
                     ("heals c 1", "never"), ("read c 0 0,1", "none"), ("team s a 0", "ok"), ("distance s", "none"),
                     ("read s 0 -", "0"), ("names", "b c s"))

    def test_questions_change_nothing(self):
        desk = Desk(roster=filled())
        desk.roster().ticks("one")
        desk.say("undo")
        for line in QUESTIONS:
            before = seen(desk)
            self.assertNotIn(desk.say(line).split(" ")[0], ("error", "invalid"))
            self.assertEqual(seen(desk), before)

    def test_errors_of_questions(self):
        desk = Desk(roster=filled())
        desk.roster().ticks("one")
        for line, name in (
                ("show nobody", "UnknownName"), ("show A", "UnknownName"), ("distance nobody", "UnknownName"),
                (f"need nobody {MOST + 1} 0", "UnknownName"), (f"need one {MOST + 1} 0", "InvalidCount"),
                (f"need one 0 {MOST + 1}", "InvalidCount"), ("safe nobody 0 0", "UnknownName"),
                (f"safe one 0 {'9' * 31}", "InvalidCount"), ("after nobody 0", "UnknownName"),
                (f"after nobody {MOST + 1}", "UnknownName"), (f"after two {MOST + 1}", "InvalidCount"),
                (f"after one {MOST + 1}", "InvalidCount"), ("late nobody 9 0", "UnknownName"), ("late two 2 0", "InvalidGroup"),
                ("late two 1,0 0", "InvalidGroup"), ("late two 0,0 0", "InvalidGroup"), (f"late two 2 {MOST + 1}", "InvalidGroup"),
                (f"late two 0 {MOST + 1}", "InvalidCount"), ("heals nobody 9", "UnknownName"), ("heals two 2", "InvalidGroup"),
                ("heals two 1,0", "InvalidGroup"), (f"heals two {'9' * 31}", "InvalidGroup"), ("read nobody 0 -", "UnknownName"),
                ("read two 0 -", "InvalidReport"), ("read two 0 0,0,0", "InvalidReport"), ("read two 0 2,0", "InvalidReport"),
                (f"read two {MOST + 1} 0,0", "InvalidCount"), (f"read two {MOST + 1} 2,0", "InvalidReport"),
                (f"read two 0 {'9' * 31},0", "InvalidReport")):
            self.keeps(desk, line, f"error {name}")

    def test_the_table_is_kept_behind_after(self):
        desk = Desk(roster=filled())
        self.answers(desk, ("after two 3", "2"))
        self.assertEqual((desk.roster().kept(), desk.roster().computed, desk.roster().history()), (["two"], 1, (3, 0)))
        self.answers(desk, ("after two 4", "2"), ("after one 0", "none"))
        self.assertEqual((desk.roster().kept(), desk.roster().computed), (["one", "two"], 2))
        self.keeps(desk, f"after ring {MOST + 1}", "error InvalidCount")
        self.keeps(desk, "after ring 00", "invalid")
        self.keeps(desk, "after ring", "invalid")
        self.answers(desk, ("add two " + ONE, "ok"))
        self.assertEqual(desk.roster().kept(), ["one"])
        self.answers(desk, ("late two 0 1", "yes"), ("heals two 0", "0"))
        self.assertEqual((desk.roster().kept(), desk.roster().computed), (["one"], 2))


class Invalid(DeskCase):
    def test_lines_bent_in_one_place(self):
        for line in LINES:
            self.assertTrue(is_valid(line), line)
            for other in bent(line):
                desk = Desk(roster=filled())
                answer = desk.say(other)
                with self.subTest(other):
                    self.assertEqual(answer == "invalid", not is_valid(other))
                    if answer.startswith("error"):
                        self.assertRegex(answer, "^error [A-Z][A-Za-z]+$")

    def test_invalid_lines_change_nothing(self):
        desk = Desk(roster=filled())
        desk.roster().ticks("one")
        desk.say("undo")
        for line in ("", " ", "  ", "x", "undo undo", "undo ", " undo", "redo 1", "names two", "names ", "Names", "NAMES", "show",
                     "show two one", "show  two", "show two ", " show two", "distance", "distance two 1", "team", "team b",
                     "team b a", "team b ab", "team  a 0", "team b a  0", "team b a 0 ", "add", "add two", "add two ab",
                     "add two ab  0", "copy", "copy two", "copy two b c", "spare two 1", "spare two 1 0 0", "spare two", "spare",
                     "spare two one 0", "spare two 01 0", "spare two 1 00", "spare two -1 0", "spare two +1 0", "spare two 1.0 0",
                     "remove two", "remove two 00", "remove two 0 0", "remove two -", "rename two", "rename two b c", "drop",
                     "drop two one", "need two 1", "need two 1 0 0", "need two 1 x", "safe two 0", "safe two 0 0 0", "safe two - 0",
                     "after two", "after two -", "after two 1 1", "after two 0x1", "late two 0", "late two 0, 1", "late two ,0 1",
                     "late two 0,,1 1", "late two 00 1", "late two 0 01", "late two -,0 1", "late two 0,- 1", "late two -- 1",
                     "late two 0 1 1", "late two - -", "heals two", "heals two 0,", "heals two 0 1", "heals two 0-1", "heals two 01",
                     "heals two -,-", "read two 0", "read two 0 ,", "read two 0 1,", "read two 0 -,--", "read two 0 01,-",
                     "read two 0 - -", "read two - 0,0", "read two 00 -,-", "read two 0 -1,0", "read two 0 a,b", "apply", "twin",
                     "history", "limit 3", "forget", "help", "undo\n", "names\n", "\nnames", "show\ttwo", "names\t", "ok", "error",
                     "after two \u0663", "after two \uff11", "team\tb a 0", "drop\n two", "word two", "text two", "number 1"):
            with self.subTest(line):
                self.assertFalse(is_valid(line))
                self.keeps(desk, line, "invalid")

    def test_numbers_of_31_and_32_digits(self):
        desk = Desk(roster=filled())
        for digits in ("1" + "0" * 30, "9" * 30, "1" + "0" * 29):
            value = int(digits)
            self.keeps(desk, f"need two {digits} 0", str(need(COUNTS, silent=value)))
            self.keeps(desk, f"safe two 0 {digits}", "no")
            self.keeps(desk, f"late two 0 {digits}", "no")
            self.keeps(desk, f"read two {digits} 0,0", "0 1 2 3")
        for digits in ("1" + "0" * 29 + "1", "9" * 31):
            for line in ("need two N 0", "need two 0 N", "safe two N 0", "spare two N 0", "after two N", "late two 0 N",
                         "read two N 0,0"):
                self.keeps(desk, line.replace("N", digits), "error InvalidCount")
            self.keeps(desk, f"remove two {digits}", "error InvalidIndex")
            self.keeps(desk, f"heals two {digits}", "error InvalidGroup")
            self.keeps(desk, f"read two 0 {digits},0", "error InvalidReport")
        for digits in ("1" + "0" * 31, "9" * 32, "0" + "9" * 30, "1" * 1900, "1" * 5000):
            for line in ("need two N 0", "need two 0 N", "safe two N 0", "spare two N 0", "after two N", "late two 0 N",
                         "late two N 0", "heals two N", "heals two 0,N", "read two N 0,0", "read two 0 N,0", "read two 0 -,N",
                         "remove two N", "need nobody N 0"):
                self.keeps(desk, line.replace("N", digits), "invalid")

    def test_groups_of_every_form(self):
        desk = Desk(roster=filled())
        desk.say("team six " + " / ".join(["a 1 0"] * 6))
        for group, answer in (("-", "0"), ("0", "0"), ("0,1,2,3,4", "0"), ("0,1,2,3,4,5", "never"), ("5", "0"),
                              ("0,2,4", "0"), ("6", "error InvalidGroup"), ("0,6", "error InvalidGroup"), ("5,4", "error InvalidGroup"),
                              ("", "invalid"), ("0,1,", "invalid"), ("0;1", "invalid"), ("[0]", "invalid")):
            self.keeps(desk, f"heals six {group}", answer)

    def test_reports_of_every_form(self):
        desk = Desk(roster=filled())
        for report, answer in (("-,-", "0 1 2 3"), ("0,-", "0 2"), ("-,0", "0 1"), ("1,1", "3"), ("0", "error InvalidReport"),
                               ("-", "error InvalidReport"), ("0,2", "error InvalidReport"), ("0,0,-", "error InvalidReport"),
                               (",", "invalid"), ("0,", "invalid"), ("None,0", "invalid"), ("0,00", "invalid")):
            self.keeps(desk, f"read two 0 {report}", answer)
        for line in ("read one 0 -", "read one 0 1", "read ring 4 0"):
            report = read_report(line.split(" ")[3])
            team = desk.roster().team_named(line.split(" ")[1])
            numbers = fitting(team, report, wrong=int(line.split(" ")[2]))
            self.keeps(desk, line, " ".join(str(number) for number in numbers))

    def test_words_may_be_any_words(self):
        desk = Desk(roster=filled())
        for word in ("A", "0", "-", "a,b", "one,two", "none\n", "one\t", "(one)", "/", "abcdefg", "~", "one." + "x" * 1900):
            self.keeps(desk, f"show {word}", "error UnknownName")
            self.keeps(desk, f"drop {word}", "error UnknownName")
            self.keeps(desk, f"rename one {word}", "error InvalidName")
            self.keeps(desk, f"copy one {word}", "error InvalidName")
            self.keeps(desk, f"team {word} a 0", "error InvalidName")
            self.keeps(desk, f"team new ab {word}", "error InvalidText")
            self.keeps(desk, f"team new {word} {word}", "error InvalidText")
            self.keeps(desk, f"add one ab {word}", "error InvalidText")

    def test_lines_of_other_kinds(self):
        desk = Desk(roster=filled())
        for line in (None, 0, 1, True, False, (), [], ("names",), ["names"], ["undo"], DEEP_LIST, DEEP_TUPLE):
            self.keeps(desk, line, "invalid")
            self.assertEqual(desk.log()[-1], (line, "invalid"))


class Desks(DeskCase):
    def test_a_new_desk(self):
        desk = Desk()
        self.assertEqual((len(desk), desk.log(), len(desk.roster()), desk.roster().limit), (0, [], 0, 10))
        self.assertIsNot(desk.roster(), Desk().roster())
        desk.say("team a a 0")
        self.assertEqual(Desk().say("names"), "none")
        with self.assertRaises(TypeError):
            Desk(Roster())

    def test_the_roster_itself(self):
        for roster in (Roster(), filled(), Roster(limit=1)):
            desk = Desk(roster=roster)
            self.assertIs(desk.roster(), roster)
            desk.say("drop one")
            self.assertIs(desk.roster(), roster)
        self.assertIs(Desk(roster=None).roster().__class__, Roster)

    def test_two_desks_of_one_roster(self):
        roster = filled()
        one, other = Desk(roster=roster), Desk(roster=roster)
        self.answers(one, ("drop two", "ok"), ("after one 2", "1"))
        self.answers(other, ("names", "one ring"), ("undo", "ok"))
        self.answers(one, ("names", "one two ring"), ("undo", "ok"))
        self.answers(other, ("names", "one two"), ("redo", "ok"), ("redo", "ok"), ("names", "one ring"))
        self.assertEqual((len(one), len(other), roster.kept()), (4, 6, ["one"]))

    def test_a_roster_that_is_changed_between_lines(self):
        roster = filled()
        desk = Desk(roster=roster)
        roster.apply(("rename", "one", "uno"), ("add", "two", ONE))
        self.answers(desk, ("names", "uno two ring"), ("show two", TWO + " / " + ONE), ("show one", "error UnknownName"))
        roster.limit = 3
        self.answers(desk, ("team x a 0", "error CapacityExceeded"))
        roster.forget()
        self.answers(desk, ("undo", "error NothingLeft"))

    def test_log_and_len(self):
        desk = Desk(roster=filled())
        pairs = []
        for at, line in enumerate(("names", "x", "drop nobody", "drop one", "names", "", "undo", "x")):
            pairs.append((line, desk.say(line) if at % 2 else desk(line)))
            self.assertEqual((desk.log(), len(desk)), (pairs, at + 1))
        self.assertEqual([answer for line, answer in pairs],
                         ["one two ring", "invalid", "error UnknownName", "ok", "two ring", "invalid", "ok", "invalid"])
        self.assertIsInstance(desk.log()[0], tuple)

    def test_a_desk_called_as_a_function(self):
        desk = Desk()
        self.assertEqual([desk("team a a 0"), desk(line="names"), desk.say(line="drop a"), desk("")], ["ok", "a", "ok", "invalid"])
        self.assertEqual(len(desk), 4)

    def test_the_log_is_new_and_copies_lines(self):
        desk = Desk()
        line = ["names", [1]]
        desk.say(line)
        line[1].append(2)
        desk.log().clear()
        desk.log()[0][0].append(3)
        self.assertEqual(desk.log(), [(["names", [1]], "invalid")])

    def test_commands_and_errors_agree_with_the_roster(self):
        for line in LINES:
            words = line.split(" ")
            if words[0] in ("team", "add"):
                command = (*words[:2], " ".join(words[2:]))
            elif words[0] in ("copy", "rename", "drop"):
                command = tuple(words)
            elif words[0] in ("spare", "remove"):
                command = (*words[:2], *[int(word) for word in words[2:]])
            else:
                continue
            for limit in (3, 10):
                desk, roster = Desk(roster=filled(limit=limit)), filled(limit=limit)
                error = error_line(lambda: roster.apply(command))
                self.assertEqual(desk.say(line), error or "ok")
                self.assertEqual(whole(desk.roster()), whole(roster))


if __name__ == "__main__":
    unittest.main()
