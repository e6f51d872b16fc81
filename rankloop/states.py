"""All that stands in a loop, as plain data."""

OPEN = ("open",)
SETTLED = ("kept", "broken")


class Promise:
    """What is known of a promise, and who takes it."""

    def __init__(self, story, gather):
        # As a loop tells it: OPEN, ("follows", number), ("kept", worth) or ("broken", reason).
        self.fate = OPEN
        # What comes when it settles, see promises.py.
        self.takers = []
        self.taken = False
        # For all, any, first, each: this word, and a tuple of the fates that have come, None for the others.
        self.gather = gather
        # Of a story's: "whole", "due" (to fail with cancel), or "spent" (cancelled once, or ended).
        self.story = story
        # The open promise that the story waits for.
        self.waits = None
        # A promise farther on in the row of those that it follows.
        self.ahead = None


class Timer:
    """A timer, or an idle work; it is never changed."""

    def __init__(self, due, number, gap, rank, name, script):
        self.due = due
        self.number = number
        # None where it is due just once.
        self.gap = gap
        self.rank = rank
        self.name = name
        self.script = script


class State:
    """What stands in a loop."""

    def __init__(self, patience, flood, deep, calls):
        self.patience = patience
        self.flood = flood
        self.deep = deep
        self.calls = calls
        self.clock = 0
        self.events = []
        self.numbers = 0
        self.queues = [[] for rank in range(len(patience))]
        self.passed = [None for rank in range(len(patience))]
        self.micros = []
        # By due, of alike ones by number.
        self.timers = []
        # By number.
        self.idles = []
        self.promises = []
        self.named = {}
        # The numbers of broken promises that nobody took and that weren't told as unhandled yet, as they broke.
        self.untold = {}
        # Tuples of a work and the number of the promise that it runs for.
        self.opened = []
        # The micros done, and whether a flood was told, in the turn that is under way.
        self.done = 0
        self.flooded = False
        # The work for which a def is asked, or was when it raised an error.
        self.asking = None
        self.busy = False


def write(state, *parts):
    """Write an event into the journal."""
    state.events.append((state.clock, *parts))


def new_number(state):
    """The next number for a work."""
    number = state.numbers
    state.numbers += 1
    return number


def is_settled(state, number):
    """Whether a promise is kept or broken."""
    return state.promises[number].fate[0] in SETTLED


def copied(state):
    """A state that goes on for itself; works and timers, which are never changed, are shared."""
    twin = State(state.patience, state.flood, state.deep, state.calls)
    twin.clock = state.clock
    twin.events = list(state.events)
    twin.numbers = state.numbers
    twin.queues = [list(queue) for queue in state.queues]
    twin.passed = list(state.passed)
    twin.micros = list(state.micros)
    twin.timers = list(state.timers)
    twin.idles = list(state.idles)
    twin.promises = [copied_promise(promise) for promise in state.promises]
    twin.named = dict(state.named)
    twin.untold = dict(state.untold)
    twin.opened = list(state.opened)
    twin.done = state.done
    twin.flooded = state.flooded
    twin.asking = state.asking
    return twin


def copied_promise(promise):
    """A promise that goes on for itself."""
    twin = Promise(promise.story, promise.gather)
    twin.fate = promise.fate
    twin.takers = list(promise.takers)
    twin.taken = promise.taken
    twin.waits = promise.waits
    twin.ahead = promise.ahead
    return twin
