"""Steps in which a loop may go on while works come from outside.

Outside works are tuples (rank, name, script), and go by their places in the list.
"""


def forgotten(loop):
    """A copy of a loop, as if it had forgotten."""
    twin = loop.copy()
    twin.forget()
    return twin


def come(loop, outside, number):
    """Post an outside work."""
    rank, name, script = outside[number]
    loop.post(script, rank=rank, name=name)


def behind_coming(loop, outside, number):
    """A copy of a loop with an outside work posted."""
    twin = loop.copy()
    come(twin, outside, number)
    return twin


def behind_turn(loop):
    """A copy of a loop behind a turn, and the events that this added, which it forgot; None where there is no turn."""
    twin = forgotten(loop)
    if not twin.turn():
        return None
    events = twin.journal()
    twin.forget()
    return (twin, events)


def row_of(loop, numbers):
    """A loop that forgot, and the numbers of the works that have come, as a row of the states that are come to."""
    return (str(loop), numbers)


def with_number(numbers, number):
    """A rising tuple of numbers with one more."""
    return tuple(sorted([*numbers, number]))


def numbers_left(outside, numbers):
    """The numbers of the works that haven't come."""
    return [number for number in range(len(outside)) if number not in numbers]


def said_first(events, first, second):
    """Which of two words is said first, the second where both are one; None where neither is."""
    for worth in [event[2] for event in events if event[1] == "said"]:
        if worth == second:
            return "second"
        if worth == first:
            return "first"
    return None
