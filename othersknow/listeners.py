"""Listeners, which know a set of joint states."""

from othersknow.errors import InvalidReport, NothingLeft, Refused
from othersknow.reports import fitting, is_report, require_count
from othersknow.ticks import Ticks
from othersknow.values import is_number


class Listener:
    """A listener of a team, which is told that letters came, but not which ones, and what machines report."""

    def __init__(self, team, *, wrong=0, late=False):
        require_count(wrong)
        self.held_team = team
        self.most_wrong = wrong
        self.table = Ticks(team)
        self.numbers_left = tuple(range(len(team.joint_states()))) if late else (0,)
        self.all_ticks = 0
        self.ticks_since = 0 if self.sure else None
        # For each call that can be taken back what was known and counted before it.
        self.past = []
        self.taking = False

    @property
    def team(self):
        """The team."""
        return self.held_team

    @property
    def wrong(self):
        """How many machines may be wrong in a report."""
        return self.most_wrong

    @property
    def sure(self):
        """Whether one joint state alone is left."""
        return len(self.numbers_left) == 1

    @property
    def heard(self):
        """How many ticks came in all."""
        return self.all_ticks

    @property
    def since(self):
        """How many ticks came since the last call behind which the listener was sure, or None."""
        return self.ticks_since

    @property
    def busy(self):
        """Whether items are being taken."""
        return self.taking

    def known(self):
        """The ascending list of the numbers of the joint states that are left."""
        return list(self.numbers_left)

    def state(self):
        """The joint state if the listener is sure, otherwise None."""
        return self.held_team.joint_states()[self.numbers_left[0]] if self.sure else None

    def tick(self, count=1):
        """So many letters came."""
        require_count(count)
        self.hear_all(count)

    def hear(self, report):
        """The machines made a report."""
        # To hear_all a number would be ticks.
        if not is_report(self.held_team, report):
            raise InvalidReport()
        self.hear_all(report)

    def hear_all(self, *items):
        """Takes numbers of ticks and reports one by one, all or none."""
        self.taking = True
        try:
            left, ticks = self.behind_items(items)
        finally:
            self.taking = False
        self.past.append((self.numbers_left, self.all_ticks, self.ticks_since))
        self.numbers_left = left
        self.all_ticks += ticks
        if self.sure:
            self.ticks_since = 0
        elif self.ticks_since is not None:
            self.ticks_since += ticks

    def behind_items(self, items):
        """What is left behind some items, and how many ticks are among them."""
        left = self.numbers_left
        ticks = 0
        for item in items:
            if is_number(item):
                require_count(item)
                left = self.table.spread(left, item)
                ticks += item
            else:
                fitted = fitting(self.held_team, item, wrong=self.most_wrong)
                left = [number for number in left if number in fitted]
                if len(left) == 0:
                    raise Refused()
        return tuple(left), ticks

    def back(self):
        """Takes the last call of tick, hear or hear_all back."""
        if len(self.past) == 0:
            raise NothingLeft()
        self.numbers_left, self.all_ticks, self.ticks_since = self.past.pop()

    def twin(self):
        """An independent listener in the same state."""
        fresh = Listener(self.held_team, wrong=self.most_wrong)
        fresh.numbers_left = self.numbers_left
        fresh.all_ticks = self.all_ticks
        fresh.ticks_since = self.ticks_since
        fresh.past = list(self.past)
        return fresh

    def __len__(self):
        return len(self.past)
