"""A looker: whether a thing is a list of rows by which one word is seen to be always ahead of another one."""

from rankloop.goings import behind_coming, behind_turn, forgotten, numbers_left, row_of, said_first, with_number
from rankloop.scripts import is_whole


def shows_always(loop, outside, first, second, thing):
    """Whether each coming and each turn by which neither word is said leads into the rows, and to all of them."""
    if not isinstance(thing, list) or not all([is_row(row) for row in thing]):
        return False
    known = {row: True for row in thing}
    if len(known) != len(thing):
        return False
    # The rows that weren't come to yet.
    rest = {row: True for row in known}
    found = [(forgotten(loop), ())]
    while found:
        ahead, numbers = found.pop()
        row = row_of(ahead, numbers)
        if row not in known:
            return False
        if row in rest:
            rest.pop(row)
            behind = states_behind(ahead, numbers, outside, first, second)
            if behind is None:
                return False
            found.extend(behind)
    return len(rest) == 0


def is_row(thing):
    """Whether it is a tuple of a text and a tuple of whole numbers."""
    if not isinstance(thing, tuple) or len(thing) != 2:
        return False
    text, numbers = thing
    return isinstance(text, str) and isinstance(numbers, tuple) and all([is_whole(number) for number in numbers])


def states_behind(loop, numbers, outside, first, second):
    """The states behind each coming, and a turn by which neither is said; None where the second is said first."""
    left = numbers_left(outside, numbers)
    behind = [(behind_coming(loop, outside, number), with_number(numbers, number)) for number in left]
    step = behind_turn(loop)
    if step is not None:
        twin, events = step
        word = said_first(events, first, second)
        if word == "second":
            return None
        if word is None:
            behind.append((twin, numbers))
    return behind
