"""All that stands in a loop, as plain data."""

OPEN = ("open",)
SETTLED = ("kept", "broken")


class Setup:
    """What a loop was made with, which never changes: its copies share it."""

    def __init__(self, patience, flood, deep, calls):
        self.patience = patience
        self.flood = flood
        self.deep = deep
        self.calls = calls
        # Tuples of a rank and its patience, for the ranks that have one.
        self.patient = [(rank, bears) for rank, bears in enumerate(patience) if bears is not None]
        # None until it is asked, see looprows.py.
        self.text = None


class Book:
    """The promises of a loop, which go by their numbers."""

    def __init__(self):
        # Of each promise what a loop tells: OPEN, ("follows", number), ("kept", worth) or ("broken", reason).
        self.fates = []
        self.named = {}
        # Of promises that aren't settled what comes when they are, see promises.py.
        self.takers = {}
        # Those that somebody takes; of kept ones that is no matter.
        self.taken = {}
        # The broken ones that nobody took and that weren't told as unhandled yet, as they broke.
        self.untold = {}
        # Of open ones for all, any, first, each: this word, and a tuple of the fates that came, or None.
        self.gathers = {}
        # Of each story's: "whole", "due" (to fail with cancel), or "spent" (cancelled once, or ended).
        self.stories = {}
        # Of a story's the open promise that it waits for; of a following one a promise farther on in the row.
        self.waits = {}
        self.ahead = {}
        # Whether several loops have it: then none of them changes it, see own_book.
        self.shared = False
        # Its rows in the text of a loop, None where they weren't asked since it was changed.
        self.text = None


class State:
    """What stands in a loop; works go by their numbers."""

    def __init__(self, setup, book, queues, since, clock, numbers, picks):
        self.setup = setup
        self.book = book
        # How many works were begun from lines, and for each rank how many when its first work became that.
        self.picks = picks
        self.since = since
        self.queues = queues
        self.clock = clock
        self.numbers = numbers
        self.events = []
        # How many of these are in a text that was asked, and their rows in it.
        self.shown = (0, "")
        self.micros = []
        # Tuples (due, number, plan), sorted, see queues.py.
        self.timers = []
        # Such tuples too, by number; soonest is the least of their dues, or None.
        self.idles = []
        self.soonest = None
        # Tuples of a work and the number of the promise that it runs for.
        self.opened = []
        # The micros done, and whether a flood was told, in the turn that is under way.
        self.done = 0
        self.flooded = False
        # The work for which a def is asked, or was when it raised an error.
        self.asking = None
        self.busy = False


def first_state(setup):
    """The state of a loop in which nothing stands."""
    ranks = len(setup.patience)
    return State(setup, Book(), [[] for rank in range(ranks)], [0] * ranks, 0, 0, 0)


def forget_events(state):
    """Empty the journal."""
    state.events = []
    state.shown = (0, "")


def passes_of(state):
    """For each rank how often its first work was passed over; None where there is no work."""
    return [state.picks - since if line else None for line, since in zip(state.queues, state.since)]


def new_number(state):
    """The next number for a work."""
    number = state.numbers
    state.numbers = number + 1
    return number


def is_settled(state, number):
    """Whether a promise is kept or broken."""
    return state.book.fates[number][0] in SETTLED


def copied(state):
    """A state that goes on for itself; works and other things that are never changed are shared."""
    book = state.book
    # Most copies never touch it.
    book.shared = True
    queues = [list(line) for line in state.queues]
    twin = State(state.setup, book, queues, list(state.since), state.clock, state.numbers, state.picks)
    if state.events:
        twin.events = list(state.events)
        twin.shown = state.shown
    twin.timers = list(state.timers)
    if state.idles:
        twin.idles = list(state.idles)
        twin.soonest = state.soonest
    if state.micros:
        twin.micros = list(state.micros)
    if state.opened:
        twin.opened = list(state.opened)
    if state.asking is not None:
        twin.asking = state.asking
        twin.done = state.done
        twin.flooded = state.flooded
    return twin


def own_book(state):
    """The promises of a loop, to be changed: a copy of its own, where other loops have them too."""
    if state.book.shared:
        state.book = copied_book(state.book)
    book = state.book
    book.text = None
    return book


def copied_book(book):
    """Promises that one loop has for itself."""
    twin = Book()
    twin.fates = list(book.fates)
    twin.named = dict(book.named)
    twin.takers = {number: list(book.takers[number]) for number in book.takers}
    twin.taken = dict(book.taken)
    twin.untold = dict(book.untold)
    twin.gathers = dict(book.gathers)
    twin.stories = dict(book.stories)
    twin.waits = dict(book.waits)
    twin.ahead = dict(book.ahead)
    return twin
