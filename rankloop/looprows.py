"""All that stands in a loop as rows: tuples of words, numbers, None and tuples of these.

The text of a loop is that of its rows.
"""


def rows_of(state):
    """The rows of a loop's state; the defs are left aside."""
    rows = [head_of(state)]
    rows.extend([("line", many, *line) for many, line in zip(state.passed, state.queues)])
    rows.extend([("micro", *micro) for micro in state.micros])
    rows.extend([("timer", *timer) for timer in state.timers])
    rows.extend([("idle", *idle) for idle in state.idles])
    rows.extend([promise_row(state, number) for number in range(len(state.fates))])
    # Sorted: in which order the names came makes no loop unlike another one.
    rows.extend([("name", name, state.named[name]) for name in sorted(state.named)])
    rows.append(("untold", *state.untold))
    rows.extend([("run", *run) for run in state.opened])
    rows.append(("asking", state.asking))
    rows.extend([("event", *event) for event in state.events])
    return rows


def head_of(state):
    """The row of the single numbers of a loop."""
    counts = (state.clock, state.numbers, state.done, truth(state.flooded))
    return ("loop", state.patience, state.flood, state.deep, *counts)


def are_alike(state, other):
    """Whether two states have the same rows, found without making these."""
    if head_of(state) != head_of(other) or list(state.untold) != list(other.untold):
        return False
    return parts_of(state) == parts_of(other)


def parts_of(state):
    """All that stands in a loop but what its first row has, and those that are untold."""
    works = [state.passed, state.queues, state.micros, state.timers, state.idles, state.opened, state.asking]
    promises = [state.fates, state.named, state.takers, state.taken, state.gathers, state.stories]
    return [works, promises, state.events]


def truth(told):
    """A truth as a number: worths have no truths."""
    return 1 if told else 0


def promise_row(state, number):
    """The row of a promise."""
    taken = truth(number in state.taken)
    takers = state.takers.get(number, ())
    return ("promise", state.fates[number], taken, state.gathers.get(number), state.stories.get(number), *takers)
