"""The lines of works, and the timers and idle works that go there when they are due."""

from rankloop.works import Work


class Plan:
    """What a timer or an idle work puts into a line when it is due; it is never changed.

    Gap is None where it is due just once. Work is the one that was put last,
    None ahead of that: most times the next one is alike. Text is None until it
    is asked, see looprows.py.
    """

    def __init__(self, gap, rank, number, name, script):
        self.gap = gap
        self.rank = rank
        self.number = number
        self.name = name
        self.script = script
        self.work = None
        self.text = None


def put_work(state, rank, work):
    """Put a work at the end of a rank's line."""
    line = state.queues[rank]
    if not line:
        state.since[rank] = state.picks
    line.append(work)


def is_meant(work, name):
    """Whether a work in a line is one by this name that hasn't begun."""
    return work.name == name and work.around is None


def take_named(state, name):
    """Take all works by this name that haven't begun out of the lines."""
    taken = []
    for rank in range(len(state.queues)):
        line = state.queues[rank]
        if line and is_meant(line[0], name):
            # Whoever stands first then has just become that.
            state.since[rank] = state.picks
        taken.extend([work for work in line if is_meant(work, name)])
        state.queues[rank] = [work for work in line if not is_meant(work, name)]
    return taken


def stop(state, name):
    """Take away all timers, idle works and works in lines by this name; how many they were."""
    many = len(state.timers) + len(state.idles)
    state.timers = [timer for timer in state.timers if timer[2].name != name]
    state.idles = [idle for idle in state.idles if idle[2].name != name]
    note_soonest(state)
    return many - len(state.timers) - len(state.idles) + len(take_named(state, name))


def rerank(state, name, rank):
    """Put all works in lines by this name at the end of a rank's line; how many they were."""
    works = take_named(state, name)
    for work in works:
        put_work(state, rank, work)
    return len(works)


def put_timer(timers, timer):
    """Put a timer in its place among the others: by due, of alike ones by number."""
    # No two have one number, so plans are never compared.
    low = 0
    high = len(timers)
    while low < high:
        middle = (low + high) // 2
        if timers[middle] < timer:
            low = middle + 1
        else:
            high = middle
    timers.insert(low, timer)


def put_idle(state, idle):
    """Put an idle work behind the others."""
    state.idles.append(idle)
    due = idle[0]
    if due is not None and (state.soonest is None or due < state.soonest):
        state.soonest = due


def take_idle(state):
    """Take the first idle work."""
    idle = state.idles.pop(0)
    if idle[0] is not None and idle[0] == state.soonest:
        note_soonest(state)
    return idle


def note_soonest(state):
    """Note the least due of idle works, so that a turn needn't go through all of them."""
    state.soonest = min([idle[0] for idle in state.idles if idle[0] is not None], default=None)


def put_due(state):
    """Put the works of all timers and idle works that are due into their lines."""
    clock = state.clock
    if state.soonest is not None and state.soonest <= clock:
        make_timers(state)
    timers = state.timers
    while timers and timers[0][0] <= clock:
        due, number, plan = timers[0]
        gap = plan.gap
        if gap is None:
            times = None
            timers.pop(0)
        else:
            times = (clock - due) // gap + 1
            again = (due + times * gap, number, plan)
            if len(timers) == 1 or again < timers[1]:
                timers[0] = again
            else:
                timers.pop(0)
                put_timer(timers, again)
        work = plan.work
        if work is None or work.told != times:
            work = planned_work(plan, times)
        # As put_work does; but timers are many, and are to be quick.
        line = state.queues[plan.rank]
        if not line:
            state.since[plan.rank] = state.picks
        line.append(work)


def planned_work(plan, told):
    """The work that comes of a plan, told this."""
    work = Work(plan.number, plan.name, plan.script, told, None, None)
    plan.work = work
    return work


def make_timers(state):
    """Make timers of the idle works that are due, so that they go to their line in order with the others."""
    idles = state.idles
    state.idles = [idle for idle in idles if idle[0] is None or idle[0] > state.clock]
    for idle in idles:
        if idle[0] is not None and idle[0] <= state.clock:
            put_timer(state.timers, idle)
    note_soonest(state)
