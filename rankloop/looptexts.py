"""Loops read from their texts."""

from rankloop.errors import NoText
from rankloop.loopchecks import Bounds, is_head, is_row
from rankloop.loopties import hangs_together
from rankloop.loops import Loop
from rankloop.queues import Plan, note_soonest
from rankloop.scripttexts import nested
from rankloop.states import Setup, first_state
from rankloop.works import Work

WORDS = ("line", "micro", "timer", "idle", "promise", "name", "untold", "run", "asking", "event")


def read_loop(text, *, calls=None):
    """The loop that has this text, with these defs; NoText where none has it."""
    if not isinstance(text, str):
        raise NoText(0)
    rows = [read_row(at, row) for at, row in enumerate(text.split("\n"))]
    if rows[0][0] != "loop" or not is_head(rows[0][1:]):
        raise NoText(0)
    loop = Loop(calls=state_of(rows[0], rows_by_word(rows), {} if calls is None else dict(calls)))
    # The order of rows, noughts ahead and the like are judged here: by what is written of it.
    if not hangs_together(loop.state) or str(loop) != text:
        raise NoText(0)
    return loop


def read_row(at, row):
    """The tuple that has this text; NoText with this number where none has it."""
    signs = row.replace("(", " ( ").replace(")", " ) ").replace(",", "").replace("'", "").replace("None", "-").split()
    try:
        parts = nested(signs)
    except NoText:
        raise NoText(at) from None
    if not parts:
        raise NoText(at)
    return parts


def rows_by_word(rows):
    """The parts of the rows behind the first one, by their words; NoText where one isn't as it must be."""
    promises = [row for row in rows if row[0] == "promise"]
    bounds = Bounds(len(rows[0][1]), rows[0][5], len(promises))
    parts = {word: [] for word in WORDS}
    for at, row in enumerate(rows):
        if at > 0:
            if not is_row(row, bounds):
                raise NoText(at)
            parts[row[0]].append(row[1:])
    if len(parts["line"]) != bounds.ranks or len(parts["untold"]) > 1 or len(parts["asking"]) > 1:
        raise NoText(0)
    return parts


def state_of(head, parts, calls):
    """The state that has these rows."""
    word, patience, flood, deep, clock, numbers = head
    state = first_state(Setup(patience, flood, deep, calls))
    state.clock = clock
    state.numbers = numbers
    # As many as no line has more passes than that.
    state.picks = max([row[0] for row in parts["line"] if row], default=0)
    state.since = [state.picks - row[0] if row else 0 for row in parts["line"]]
    state.queues = [[work_of(work) for work in row[1:]] for row in parts["line"]]
    state.micros = [with_work(micro) for micro in parts["micro"]]
    state.timers = [timer_of(timer) for timer in parts["timer"]]
    state.idles = [timer_of(idle) for idle in parts["idle"]]
    note_soonest(state)
    put_promises(state.book, parts)
    state.opened = [(work_of(work), number) for work, number in parts["run"]]
    for work, done, flooded in parts["asking"]:
        state.asking = work_of(work)
        state.done = done
        state.flooded = flooded == 1
    state.events = parts["event"]
    return state


def work_of(parts):
    """The work that has these parts."""
    number, name, script, told, pledge, *around = parts
    return Work(number, name, script, told, pledge, tuple(around) if around else None)


def with_work(row):
    """A micro or taker with its work in the place of the parts of that, if it has one."""
    return (*row[:2], work_of(row[2]), *row[3:]) if row[1] == "work" else row


def timer_of(parts):
    """The tuple of a timer or of an idle work that has these parts."""
    due, number, gap, rank, name, script = parts
    return (due, number, Plan(gap, rank, number, name, script))


def put_promises(book, parts):
    """Put the promises that have these rows."""
    book.named = {row[0]: row[1] for row in parts["name"]}
    book.untold = {number: True for row in parts["untold"] for number in row}
    for number, row in enumerate(parts["promise"]):
        fate, taken, gather, story, *takers = row
        book.fates.append(fate)
        if taken:
            book.taken[number] = True
        if gather is not None:
            book.gathers[number] = gather
        if story is not None:
            book.stories[number] = story
        if takers:
            book.takers[number] = [with_work(taker) for taker in takers]
        if fate[0] == "follows":
            book.ahead[number] = fate[1]
    note_waits(book)


def note_waits(book):
    """Note for which open promise each story waits."""
    for number in book.takers:
        for taker in book.takers[number]:
            if taker[1] == "work" and taker[2].pledge in book.stories:
                book.waits[taker[2].pledge] = number
