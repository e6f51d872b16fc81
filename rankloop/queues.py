"""The lines of works, and the timers and idle works that go there when they are due."""

from rankloop.states import Timer
from rankloop.works import Work


def put_work(state, rank, work):
    """Put a work at the end of a rank's line."""
    if not state.queues[rank]:
        state.passed[rank] = 0
    state.queues[rank].append(work)


def take_first(state, rank):
    """Take the first work of the chosen rank; those of all others are passed over."""
    work = state.queues[rank].pop(0)
    for other, many in enumerate(list(state.passed)):
        if other == rank:
            state.passed[other] = first_passes(state, rank)
        elif many is not None:
            state.passed[other] = many + 1
    return work


def first_passes(state, rank):
    """The passes of a line whose first work has just become that."""
    return 0 if state.queues[rank] else None


def is_meant(work, name):
    """Whether a work in a line is one by this name that hasn't begun."""
    return work.name == name and not work.begun


def take_named(state, name):
    """Take all works by this name that haven't begun out of the lines."""
    taken = []
    for rank in range(len(state.queues)):
        line = state.queues[rank]
        state.queues[rank] = [work for work in line if not is_meant(work, name)]
        if line and is_meant(line[0], name):
            state.passed[rank] = first_passes(state, rank)
        taken.extend([work for work in line if is_meant(work, name)])
    return taken


def stop(state, name):
    """Take away all timers, idle works and works in lines by this name; how many they were."""
    many = len(state.timers) + len(state.idles)
    state.timers = [timer for timer in state.timers if timer.name != name]
    state.idles = [idle for idle in state.idles if idle.name != name]
    return many - len(state.timers) - len(state.idles) + len(take_named(state, name))


def rerank(state, name, rank):
    """Put all works in lines by this name at the end of a rank's line; how many they were."""
    works = take_named(state, name)
    for work in works:
        put_work(state, rank, work)
    return len(works)


def place_of(timer):
    """What timers are ordered by."""
    return (timer.due, timer.number)


def put_timer(state, timer):
    """Put a timer in its place among the others."""
    low = 0
    high = len(state.timers)
    while low < high:
        middle = (low + high) // 2
        if place_of(state.timers[middle]) < place_of(timer):
            low = middle + 1
        else:
            high = middle
    state.timers.insert(low, timer)


def put_due(state):
    """Put the works of all timers and idle works that are due into their lines."""
    for timer in take_due(state):
        told = None
        if timer.gap is not None:
            told = (state.clock - timer.due) // timer.gap + 1
            put_timer(state, next_timer(timer, told))
        put_work(state, timer.rank, Work(timer.number, timer.name, timer.script, told=told))


def next_timer(timer, many):
    """A timer as it is behind so many dues."""
    due = timer.due + many * timer.gap
    return Timer(due, timer.number, timer.gap, timer.rank, timer.name, timer.script)


def take_due(state):
    """Take away the timers and idle works that are due, in the order of their dues."""
    many = 0
    while many < len(state.timers) and state.timers[many].due <= state.clock:
        many += 1
    idles = [idle for idle in state.idles if idle.due is not None and idle.due <= state.clock]
    taken = sorted(state.timers[:many] + idles, key=place_of)
    # Most turns find nothing due, and are to be quick where many wait.
    if taken:
        gone = {timer.number: True for timer in taken}
        state.timers = state.timers[many:]
        state.idles = [idle for idle in state.idles if idle.number not in gone]
    return taken
