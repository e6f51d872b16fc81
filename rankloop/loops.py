"""Loops: works by ranks, on a clock of their own."""

from rankloop.errors import Busy, NoPromise, NoRank, NoScript
from rankloop.looprows import are_alike, rows_of
from rankloop.queues import put_work
from rankloop.scripts import is_between, is_script
from rankloop.scripttexts import show_parts
from rankloop.states import State, copied, new_number
from rankloop.turns import take_turn
from rankloop.works import fresh

RANKS = 3
FLOOD = 100
DEEP = 8
MOST = 400


class Loop:
    """A loop; all that stands in it is in its state."""

    def __init__(self, *, ranks=RANKS, patience=None, flood=FLOOD, deep=DEEP, calls=None):
        bears = (None,) * ranks if patience is None else tuple(patience)
        self.state = State(bears, flood, deep, {} if calls is None else dict(calls))

    def post(self, script, *, rank=0, name="work"):
        """Put a work at the end of a rank's line; its number."""
        state = self.state
        refuse_busy(state)
        if not is_script(script):
            raise NoScript(script)
        if not is_between(rank, 0, len(state.queues) - 1):
            raise NoRank(rank)
        number = new_number(state)
        put_work(state, rank, fresh(number, name, script, None, None))
        return number

    def turn(self):
        """Do a turn; whether one, or something ahead of one, was done."""
        refuse_busy(self.state)
        return take_turn(self.state)

    def turns(self, most=MOST):
        """Do turns until there is none, but no more than most; how many were done."""
        state = self.state
        refuse_busy(state)
        many = 0
        while many < most and take_turn(state):
            many += 1
        return many

    def now(self):
        """The clock."""
        return self.state.clock

    def depth(self):
        """How many runs stand open."""
        return len(self.state.opened)

    def journal(self):
        """The events since the beginning, or since it forgot."""
        return list(self.state.events)

    def promise(self, name):
        """The fate of the promise that was made last by this name."""
        # Asked first, as a list or a dict can't be looked up.
        if not isinstance(name, str) or name not in self.state.named:
            raise NoPromise(name)
        return self.state.fates[self.state.named[name]]

    def lines(self):
        """For each rank the names of the works in its line."""
        return [[work[1] for work in line] for line in self.state.queues]

    def passes(self):
        """For each rank how often its first work was passed over; None where there is no work."""
        return list(self.state.passed)

    def is_busy(self):
        """Whether a def is being asked."""
        return self.state.busy

    def copy(self):
        """Another loop that goes on alike, for itself."""
        refuse_busy(self.state)
        twin = Loop(ranks=len(self.state.queues))
        twin.state = copied(self.state)
        return twin

    def forget(self):
        """Empty the journal."""
        state = self.state
        refuse_busy(state)
        state.events = []

    def __eq__(self, other):
        return isinstance(other, Loop) and are_alike(self.state, other.state)

    def __len__(self):
        return len([work for line in self.state.queues for work in line])

    def __str__(self):
        refuse_busy(self.state)
        return "\n".join([show_parts(row) for row in rows_of(self.state)])


def refuse_busy(state):
    """Refuse what can't be done while a def is asked."""
    if state.busy:
        raise Busy()
