"""Loops: works by ranks, on a clock of their own."""

from rankloop.errors import Busy, NoPromise, NoRank, NoScript
from rankloop.looprows import are_alike, text_of
from rankloop.queues import put_work
from rankloop.scripts import is_between, is_script
from rankloop.states import Setup, State, copied, first_state, forget_events, passes_of
from rankloop.turns import take_turn
from rankloop.works import Work

RANKS = 3
FLOOD = 100
DEEP = 8
MOST = 400


class Loop:
    """A loop; all that stands in it is in its state."""

    def __init__(self, *, ranks=RANKS, patience=None, flood=FLOOD, deep=DEEP, calls=None):
        if isinstance(calls, State):
            # So copies are made: nothing is built only to be put aside.
            self.state = calls
        else:
            bears = (None,) * ranks if patience is None else tuple(patience)
            self.state = first_state(Setup(bears, flood, deep, {} if calls is None else dict(calls)))

    def post(self, script, *, rank=0, name="work"):
        """Put a work at the end of a rank's line; its number."""
        state = self.state
        if state.busy:
            raise Busy()
        if not is_script(script):
            raise NoScript(script)
        if not is_between(rank, 0, len(state.queues) - 1):
            raise NoRank(rank)
        number = state.numbers
        state.numbers = number + 1
        put_work(state, rank, Work(number, name, script, None, None, None))
        return number

    def turn(self):
        """Do a turn; whether one, or something ahead of one, was done."""
        state = self.state
        if state.busy:
            raise Busy()
        return take_turn(state)

    def turns(self, most=MOST):
        """Do turns until there is none, but no more than most; how many were done."""
        state = self.state
        if state.busy:
            raise Busy()
        many = 0
        while many < most and take_turn(state):
            many += 1
        return many

    def now(self):
        """The clock."""
        return self.state.clock

    def depth(self):
        """How many runs stand open."""
        return len(self.state.opened)

    def journal(self):
        """The events since the beginning, or since it forgot."""
        return list(self.state.events)

    def promise(self, name):
        """The fate of the promise that was made last by this name."""
        # Asked first, as a list or a dict can't be looked up.
        book = self.state.book
        if not isinstance(name, str) or name not in book.named:
            raise NoPromise(name)
        return book.fates[book.named[name]]

    def lines(self):
        """For each rank the names of the works in its line."""
        return [[work.name for work in line] for line in self.state.queues]

    def passes(self):
        """For each rank how often its first work was passed over; None where there is no work."""
        return passes_of(self.state)

    def is_busy(self):
        """Whether a def is being asked."""
        return self.state.busy

    def copy(self):
        """Another loop that goes on alike, for itself."""
        state = self.state
        if state.busy:
            raise Busy()
        return Loop(calls=copied(state))

    def forget(self):
        """Empty the journal."""
        state = self.state
        if state.busy:
            raise Busy()
        forget_events(state)

    def __eq__(self, other):
        return isinstance(other, Loop) and are_alike(self.state, other.state)

    def __len__(self):
        return len([work for line in self.state.queues for work in line])

    def __str__(self):
        if self.state.busy:
            raise Busy()
        return str(text_of(self.state))
