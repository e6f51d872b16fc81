"""Loops read from their texts."""

from rankloop.errors import NoText
from rankloop.loopchecks import Bounds, is_head, is_row
from rankloop.loopties import hangs_together
from rankloop.loops import Loop
from rankloop.queues import note_soonest
from rankloop.scripttexts import nested
from rankloop.states import State

WORDS = ("line", "micro", "timer", "idle", "promise", "name", "untold", "run", "asking", "event")


def read_loop(text, *, calls=None):
    """The loop that has this text, with these defs; NoText where none has it."""
    if not isinstance(text, str):
        raise NoText(0)
    rows = [read_row(at, row) for at, row in enumerate(text.split("\n"))]
    if rows[0][0] != "loop" or not is_head(rows[0][1:]):
        raise NoText(0)
    loop = Loop(calls=calls)
    loop.state = state_of(rows[0][1:], rows_by_word(rows), loop.state.calls)
    # The order of rows, noughts ahead and the like are judged here: by what is written of it.
    if not hangs_together(loop.state) or str(loop) != text:
        raise NoText(0)
    return loop


def read_row(at, row):
    """The tuple that has this text; NoText with this number where none has it."""
    try:
        return nested(row.split(" "))
    except NoText:
        raise NoText(at) from None


def rows_by_word(rows):
    """The parts of the rows behind the first one, by their words; NoText where one isn't as it must be."""
    promises = [row for row in rows if row[0] == "promise"]
    bounds = Bounds(len(rows[0][1]), rows[0][5], len(promises))
    parts = {word: [] for word in WORDS}
    for at, row in enumerate(rows):
        if at > 0:
            if not is_row(row, bounds):
                raise NoText(at)
            parts[row[0]].append(row[1:])
    if len(parts["line"]) != bounds.ranks or len(parts["untold"]) != 1 or len(parts["asking"]) != 1:
        raise NoText(0)
    return parts


def state_of(head, parts, calls):
    """The state that has these rows."""
    patience, flood, deep, clock, numbers, done, flooded = head
    state = State(patience, flood, deep, calls)
    state.clock = clock
    state.numbers = numbers
    state.done = done
    state.flooded = flooded == 1
    state.passed = [row[0] for row in parts["line"]]
    state.queues = [list(row[1:]) for row in parts["line"]]
    state.micros = parts["micro"]
    state.timers = parts["timer"]
    state.idles = parts["idle"]
    note_soonest(state)
    put_promises(state, parts["promise"])
    state.named = {row[0]: row[1] for row in parts["name"]}
    state.untold = {number: True for number in parts["untold"][0]}
    state.opened = parts["run"]
    state.asking = parts["asking"][0][0]
    state.events = parts["event"]
    return state


def put_promises(state, rows):
    """Put the promises that have these rows."""
    for number, row in enumerate(rows):
        fate, taken, gather, story, *takers = row
        state.fates.append(fate)
        if taken:
            state.taken[number] = True
        if gather is not None:
            state.gathers[number] = gather
        if story is not None:
            state.stories[number] = story
        if takers:
            state.takers[number] = takers
        if fate[0] == "follows":
            state.ahead[number] = fate[1]
    note_waits(state)


def note_waits(state):
    """Note for which open promise each story waits."""
    for number in state.takers:
        for taker in state.takers[number]:
            if taker[1] == "work" and taker[2][5] in state.stories:
                state.waits[taker[2][5]] = number
