"""All that stands in a loop, as plain data."""

OPEN = ("open",)
SETTLED = ("kept", "broken")


class State:
    """What stands in a loop; promises and works go by their numbers."""

    def __init__(self, patience, flood, deep, calls):
        self.patience = patience
        self.flood = flood
        self.deep = deep
        self.calls = calls
        self.clock = 0
        self.events = []
        self.numbers = 0
        self.queues = [[] for rank in patience]
        self.passed = [None for rank in patience]
        self.micros = []
        # Tuples (due, number, gap, rank, name, script), sorted; gap is None where it is due just once.
        self.timers = []
        # Tuples (due, number, name, script), by number; soonest is the least of their dues, or None.
        self.idles = []
        self.soonest = None
        # Of each promise what a loop tells: OPEN, ("follows", number), ("kept", worth) or ("broken", reason).
        self.fates = []
        self.named = {}
        # Of promises that aren't settled what comes when they are, see promises.py.
        self.takers = {}
        # Those that somebody takes; of kept ones that is no matter.
        self.taken = {}
        # The broken ones that nobody took and that weren't told as unhandled yet, as they broke.
        self.untold = {}
        # Of open ones for all, any, first, each: this word, and a tuple of the fates that came, or None.
        self.gathers = {}
        # Of each story's: "whole", "due" (to fail with cancel), or "spent" (cancelled once, or ended).
        self.stories = {}
        # Of a story's the open promise that it waits for; of a following one a promise farther on in the row.
        self.waits = {}
        self.ahead = {}
        # Tuples of a work and the number of the promise that it runs for.
        self.opened = []
        # The micros done, and whether a flood was told, in the turn that is under way.
        self.done = 0
        self.flooded = False
        # The work for which a def is asked, or was when it raised an error.
        self.asking = None
        self.busy = False


def write(state, *parts):
    """Write an event into the journal."""
    state.events.append((state.clock, *parts))


def new_number(state):
    """The next number for a work."""
    number = state.numbers
    state.numbers = number + 1
    return number


def is_settled(state, number):
    """Whether a promise is kept or broken."""
    return state.fates[number][0] in SETTLED


def copied(state):
    """A state that goes on for itself; works and other tuples, which are never changed, are shared."""
    twin = State(state.patience, state.flood, state.deep, state.calls)
    twin.clock = state.clock
    twin.events = list(state.events)
    twin.numbers = state.numbers
    twin.queues = [list(line) for line in state.queues]
    twin.passed = list(state.passed)
    twin.micros = list(state.micros)
    twin.timers = list(state.timers)
    twin.idles = list(state.idles)
    twin.soonest = state.soonest
    twin.fates = list(state.fates)
    twin.named = dict(state.named)
    twin.takers = {number: list(state.takers[number]) for number in state.takers}
    twin.taken = dict(state.taken)
    twin.untold = dict(state.untold)
    twin.gathers = dict(state.gathers)
    twin.stories = dict(state.stories)
    twin.waits = dict(state.waits)
    twin.ahead = dict(state.ahead)
    twin.opened = list(state.opened)
    twin.done = state.done
    twin.flooded = state.flooded
    twin.asking = state.asking
    return twin
