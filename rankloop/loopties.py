"""How the parts of a loop that was read must hang together, so that it goes on like any other one."""

from rankloop.states import OPEN


def hangs_together(state):
    """Whether all that stands in a loop fits all else that does."""
    checks = [
        in_order(state), tells_time(state), asks_or_rests(state), tells_untold(state), takes_runs(state),
        follows_well(state), gathers_well(state), pledges_once(state),
    ]
    return all(checks)


def in_order(state):
    """Whether timers rise by due and number, idle works by number, and none has a number of another one."""
    timers = [(timer[0], timer[1]) for timer in state.timers]
    idles = [idle[1] for idle in state.idles]
    numbers = [number for due, number in timers] + idles
    return timers == sorted(timers) and idles == sorted(idles) and len(set(numbers)) == len(numbers)


def tells_time(state):
    """Whether the journal's clock never goes back, and isn't ahead of the loop's."""
    times = [event[0] for event in state.events]
    return times == sorted(times) and max(times, default=0) <= state.clock


def asks_or_rests(state):
    """Whether a turn is under way only where a def broke it off."""
    return state.asking is not None or state.done == 0 and not state.flooded


def tells_untold(state):
    """Whether those that are to be told as unhandled are broken, and nobody takes them."""
    book = state.book
    return all([book.fates[number][0] == "broken" and number not in book.taken for number in book.untold])


def takes_runs(state):
    """Whether the promises of open runs are taken, and there are no more runs than may be."""
    book = state.book
    numbers = [number for work, number in state.opened]
    if len(numbers) > state.setup.deep:
        return False
    return all([number in book.taken or book.fates[number][0] == "kept" for number in numbers])


def takers_of(state, kind):
    """All takers of this kind."""
    takers = state.book.takers
    return [taker for number in takers for taker in takers[number] if taker[1] == kind]


def micros_of(state, kind):
    """All micros of this kind."""
    return [micro for micro in state.micros if micro[1] == kind]


def is_each_once(things):
    """Whether none of these numbers, or tuples of such, stands there twice."""
    return len(set(things)) == len(things)


def follows_well(state):
    """Whether each promise that follows another one is a taker of that, just once, and no row of them is a ring."""
    followers = {}
    takers = state.book.takers
    fates = state.book.fates
    for number in takers:
        followers[number] = [taker[2] for taker in takers[number] if taker[1] == "follow"]
        if not all([fates[other] == ("follows", number) for other in followers[number]]):
            return False
    if not is_each_once([taker[2] for taker in takers_of(state, "follow")]):
        return False
    # From the ends of all rows on, where each promise is come to once; a ring has no end.
    found = [number for number, fate in enumerate(fates) if fate[0] != "follows"]
    many = 0
    while found:
        found.extend(followers.get(found.pop(), []))
        many += 1
    return many == len(fates)


def gathers_well(state):
    """Whether each place of all, any, first and each of which nothing has come is yet to come, just once."""
    coming = [(row[2], row[3]) for row in takers_of(state, "gather") + micros_of(state, "gather")]
    gathers = state.book.gathers
    awaited = [(number, place) for number in gathers for place, fate in enumerate(gathers[number][1]) if fate is None]
    needed = [(number, place) for number, place in coming if state.book.fates[number] == OPEN]
    return sorted(needed) == sorted(awaited) and is_each_once(coming)


def works_of(state):
    """All works that stand in a loop."""
    works = [work for line in state.queues for work in line]
    works.extend([row[2] for row in takers_of(state, "work") + micros_of(state, "work")])
    works.extend([work for work, number in state.opened])
    return works if state.asking is None else [*works, state.asking]


def pledges_once(state):
    """Whether no promise is for the outcome of two works, and each story that hasn't ended is there."""
    pledges = [work.pledge for work in works_of(state) if work.pledge is not None]
    going = {number: True for number in pledges}
    if not all([story == "spent" or number in going for number, story in state.book.stories.items()]):
        return False
    pledges.extend([row[2] for row in takers_of(state, "then") + micros_of(state, "settle")])
    return is_each_once(pledges) and not any([number in state.book.gathers for number in pledges])
