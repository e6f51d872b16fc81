"""All that stands in a loop as rows: tuples of words, numbers, None and tuples of these.

Loops are equal where their rows are, and the text of a loop is that of its rows.
"""

from rankloop.scripttexts import show_worth
from rankloop.works import Work


def show_row(row):
    """The text of a row: its parts, parted by single blanks."""
    return " ".join([show_worth(part) for part in row])


def rows_of(state):
    """The rows of a loop's state; the defs are left aside."""
    rows = [head_of(state)]
    rows.extend([line_row(many, line) for many, line in zip(state.passed, state.queues)])
    rows.extend([("micro", *plain(micro)) for micro in state.micros])
    rows.extend([("timer", *timer_parts(timer)) for timer in state.timers])
    rows.extend([("idle", *timer_parts(idle)) for idle in state.idles])
    rows.extend([promise_row(promise) for promise in state.promises])
    # Sorted: in which order the names came makes no loop unlike another one.
    rows.extend([("name", name, state.named[name]) for name in sorted(state.named)])
    rows.append(("untold", *state.untold))
    rows.extend([("run", *plain(run)) for run in state.opened])
    rows.append(("asking", *plain((state.asking,))))
    rows.extend([("event", *event) for event in state.events])
    return rows


def head_of(state):
    """The row of the single numbers of a loop."""
    counts = (state.clock, state.numbers, state.done, truth(state.flooded))
    return ("loop", state.patience, state.flood, state.deep, *counts)


def truth(told):
    """A truth as a number: worths have no truths."""
    return 1 if told else 0


def line_row(many, line):
    """The row of a line: the passes of its first work, and its works."""
    return ("line", many, *[work_parts(work) for work in line])


def work_parts(work):
    """All that is known of a work."""
    return (work.number, work.name, tuple(work.frames), work.told, work.gave, work.pledge, truth(work.begun))


def plain(parts):
    """A tuple that may have works in it, each by its parts."""
    return tuple([work_parts(part) if isinstance(part, Work) else part for part in parts])


def timer_parts(timer):
    """All that is known of a timer or an idle work."""
    return (timer.due, timer.number, timer.gap, timer.rank, timer.name, timer.script)


def promise_row(promise):
    """The row of a promise."""
    takers = [plain(taker) for taker in promise.takers]
    # Of a kept one nothing hangs any more on whether it was taken.
    taken = truth(promise.taken and promise.fate[0] != "kept")
    return ("promise", promise.fate, taken, promise.gather, promise.story, *takers)
