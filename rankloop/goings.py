"""Steps in which a loop may go on while works come from outside.

Outside works go by their places in the list. The states here are the asker's
own ones: a coming is done in place and taken back, so that only those behind it
that weren't come to yet are copied, and a turn is done in place behind that.
"""

from rankloop.errors import NoRank, NoScript
from rankloop.queues import put_work
from rankloop.scripts import is_between, is_script
from rankloop.turns import take_turn
from rankloop.works import Work


class Outside:
    """Works from outside, tuples (rank, name, script)."""

    def __init__(self, works):
        self.works = list(works)
        # By place and number: states share works, so each is made just once.
        self.made = {}
        # By the numbers of those that have come: what may come, see comings_behind.
        self.comings = {}


def outside_of(state, works):
    """Works that may come to a loop from outside, refused as where they are posted."""
    for rank, name, script in works:
        if not is_script(script):
            raise NoScript(script)
        if not is_between(rank, 0, len(state.queues) - 1):
            raise NoRank(rank)
    return Outside(works)


def comings_behind(outside, numbers):
    """Of each work that hasn't come: its place, and the numbers of all that have come behind it, a rising tuple."""
    if numbers not in outside.comings:
        left = [place for place in range(len(outside.works)) if place not in numbers]
        outside.comings[numbers] = [(place, tuple(sorted([*numbers, place]))) for place in left]
    return outside.comings[numbers]


def come(state, outside, place):
    """Have an outside work come."""
    rank, name, script = outside.works[place]
    number = state.numbers
    key = (place, number)
    if key not in outside.made:
        outside.made[key] = Work(number, name, script, None, None, None)
    state.numbers = number + 1
    put_work(state, rank, outside.made[key])


def take_back(state, outside, place):
    """Take the last coming back."""
    state.numbers -= 1
    state.queues[outside.works[place][0]].pop()


def events_of_turn(state):
    """What a turn adds to the journal of a state that forgot, which it forgets too; None where there is no turn."""
    if not take_turn(state):
        return None
    events = state.events
    state.events = []
    return events


def said_first(events, first, second):
    """Which of two words is said first, the second where both are one; None where neither is."""
    for event in events:
        if event[1] == "said":
            if event[2] == second:
                return "second"
            if event[2] == first:
                return "first"
    return None
