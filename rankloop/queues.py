"""The lines of works, and the timers and idle works that go there when they are due."""

from rankloop.works import fresh


def put_work(state, rank, work):
    """Put a work at the end of a rank's line."""
    line = state.queues[rank]
    if not line:
        state.passed[rank] = 0
    line.append(work)


def take_first(state, rank):
    """Take the first work of the chosen rank; those of all others are passed over."""
    line = state.queues[rank]
    work = line.pop(0)
    passed = [None if many is None else many + 1 for many in state.passed]
    passed[rank] = 0 if line else None
    state.passed = passed
    return work


def is_meant(work, name):
    """Whether a work in a line is one by this name that hasn't begun."""
    return work[1] == name and not work[-1]


def take_named(state, name):
    """Take all works by this name that haven't begun out of the lines."""
    taken = []
    for rank in range(len(state.queues)):
        line = state.queues[rank]
        if line and is_meant(line[0], name):
            # Whoever stands first then has just become that.
            state.passed[rank] = 0
        taken.extend([work for work in line if is_meant(work, name)])
        state.queues[rank] = [work for work in line if not is_meant(work, name)]
        if not state.queues[rank]:
            state.passed[rank] = None
    return taken


def stop(state, name):
    """Take away all timers, idle works and works in lines by this name; how many they were."""
    many = len(state.timers) + len(state.idles)
    state.timers = [timer for timer in state.timers if timer[4] != name]
    state.idles = [idle for idle in state.idles if idle[2] != name]
    note_soonest(state)
    return many - len(state.timers) - len(state.idles) + len(take_named(state, name))


def rerank(state, name, rank):
    """Put all works in lines by this name at the end of a rank's line; how many they were."""
    works = take_named(state, name)
    for work in works:
        put_work(state, rank, work)
    return len(works)


def put_timer(state, timer):
    """Put a timer in its place among the others: by due, of alike ones by number."""
    timers = state.timers
    low = 0
    high = len(timers)
    while low < high:
        middle = (low + high) // 2
        if timers[middle] < timer:
            low = middle + 1
        else:
            high = middle
    timers.insert(low, timer)


def put_idle(state, idle):
    """Put an idle work behind the others."""
    state.idles.append(idle)
    due = idle[0]
    if due is not None and (state.soonest is None or due < state.soonest):
        state.soonest = due


def take_idle(state):
    """Take the first idle work."""
    idle = state.idles.pop(0)
    if idle[0] is not None and idle[0] == state.soonest:
        note_soonest(state)
    return idle


def note_soonest(state):
    """Note the least due of idle works, so that a turn needn't go through all of them."""
    state.soonest = min([idle[0] for idle in state.idles if idle[0] is not None], default=None)


def put_due(state):
    """Put the works of all timers and idle works that are due into their lines."""
    if state.soonest is not None and state.soonest <= state.clock:
        make_timers(state)
    timers = state.timers
    while timers and timers[0][0] <= state.clock:
        due, number, gap, rank, name, script = timers.pop(0)
        told = None
        if gap is not None:
            told = (state.clock - due) // gap + 1
            put_timer(state, (due + told * gap, number, gap, rank, name, script))
        put_work(state, rank, fresh(number, name, script, told, None))


def make_timers(state):
    """Make timers of the idle works that are due, so that they go to their line in order with the others."""
    idles = state.idles
    state.idles = [idle for idle in idles if idle[0] is None or idle[0] > state.clock]
    for due, number, name, script in idles:
        if due is not None and due <= state.clock:
            put_timer(state, (due, number, None, len(state.queues) - 1, name, script))
    note_soonest(state)
