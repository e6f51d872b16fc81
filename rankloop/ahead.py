"""Whether one word is always said ahead of another one, however works come from outside."""

from rankloop.errors import TooMany
from rankloop.goings import come, comings_behind, events_of_turn, outside_of, said_first, take_back
from rankloop.looprows import standing_text
from rankloop.states import copied

MOST_STATES = 500


class Reached:
    """A state in which neither word was said, and the least weaving that leads to it by fewest events."""

    def __init__(self, state, numbers, weaving, done):
        self.state = state
        # The works that have come, and how many turns are done.
        self.numbers = numbers
        self.weaving = weaving
        self.done = done


class Search:
    """What was come to so far, by its rows: by fewer events than now, and by just one more."""

    def __init__(self, outside, first, second):
        self.outside = outside
        self.first = first
        self.second = second
        self.rows = {}
        self.found = {}


def always(loop, outside, first, second):
    """("always", rows) where the first word is said ahead whenever the second one is; else ("not", weaving)."""
    start = loop.copy()
    start.forget()
    search = Search(outside_of(start.state, outside), first, second)
    search.found = {(str(start), ()): Reached(start.state, (), [], 0)}
    while search.found:
        found = search.found
        search.found = {}
        for row in found:
            search.rows[row] = True
        if len(search.rows) > MOST_STATES:
            raise TooMany(MOST_STATES)
        shown = weavings_that_show(search, list(found.values()))
        if shown:
            return ("not", min(shown))
    return ("always", list(search.rows))


def weavings_that_show(search, reached):
    """Go on by one event from all of these states; the weavings by which the second word is said then.

    What comes goes ahead of the turn, and what was found first goes on first:
    so whatever is found once more was first found by a lesser weaving.
    """
    shown = []
    for ahead in reached:
        comings = comings_behind(search.outside, ahead.numbers)
        # Where there are too many, no more of them need to be noted.
        has_room = len(search.rows) + len(search.found) <= MOST_STATES
        if comings and has_room:
            add_comings(search, ahead, comings)
        events = events_of_turn(ahead.state)
        if events is not None:
            word = said_first(events, search.first, search.second)
            if word is None and has_room:
                add_turn(search, ahead)
            elif word == "second":
                # What hasn't come stands behind the turn.
                shown.append(ahead.weaving + [(ahead.done + 1, place) for place, numbers in comings])
    return shown


def add_comings(search, ahead, comings):
    """Note the states behind each coming to this one."""
    state = ahead.state
    for place, numbers in comings:
        come(state, search.outside, place)
        row = (standing_text(state), numbers)
        if row not in search.rows and row not in search.found:
            search.found[row] = Reached(copied(state), numbers, [*ahead.weaving, (ahead.done, place)], ahead.done)
        take_back(state, search.outside, place)


def add_turn(search, ahead):
    """Note the state behind a turn, which was done in place."""
    row = (standing_text(ahead.state), ahead.numbers)
    if row not in search.rows and row not in search.found:
        ahead.done += 1
        search.found[row] = ahead
