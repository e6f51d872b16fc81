"""A looker: whether a thing is a list of rows by which one word is seen to be always ahead of another one."""

from rankloop.goings import come, comings_behind, events_of_turn, outside_of, said_first, take_back
from rankloop.looprows import standing_text
from rankloop.scripts import is_whole
from rankloop.states import copied


class Look:
    """The rows that are looked through, and those of them that weren't come to yet."""

    def __init__(self, outside, rows):
        self.outside = outside
        self.rows = {row: True for row in rows}
        self.rest = {row: True for row in rows}
        # States to go on from, with the numbers of the works that have come.
        self.found = []


def shows_always(loop, outside, first, second, thing):
    """Whether each coming and each turn by which neither word is said leads into the rows, and to all of them."""
    if not isinstance(thing, list) or not all([is_row(row) for row in thing]):
        return False
    start = loop.copy()
    start.forget()
    look = Look(outside_of(start.state, outside), thing)
    if len(look.rows) != len(thing) or (str(start), ()) not in look.rows:
        return False
    look.rest.pop((str(start), ()))
    look.found.append((start.state, ()))
    while look.found:
        state, numbers = look.found.pop()
        if not lead_comings_into(look, state, numbers):
            return False
        events = events_of_turn(state)
        word = "none" if events is None else said_first(events, first, second)
        if word == "second" or word is None and not leads_into(look, state, numbers, False):
            return False
    return len(look.rest) == 0


def is_row(thing):
    """Whether it is a tuple of a text and a tuple of whole numbers."""
    if not isinstance(thing, tuple) or len(thing) != 2:
        return False
    text, numbers = thing
    return isinstance(text, str) and isinstance(numbers, tuple) and all([is_whole(number) for number in numbers])


def lead_comings_into(look, state, numbers):
    """Whether each coming to this state leads into the rows."""
    for place, behind in comings_behind(look.outside, numbers):
        come(state, look.outside, place)
        if not leads_into(look, state, behind, True):
            return False
        take_back(state, look.outside, place)
    return True


def leads_into(look, state, numbers, is_lent):
    """Whether a state is among the rows; where it is come to first it is to go on, as a copy if it is lent."""
    row = (standing_text(state), numbers)
    if row not in look.rows:
        return False
    if row in look.rest:
        look.rest.pop(row)
        look.found.append((copied(state) if is_lent else state, numbers))
    return True
