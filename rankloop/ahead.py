"""Whether one word is always said ahead of another one, however works come from outside."""

from rankloop.errors import TooMany
from rankloop.goings import behind_coming, behind_turn, forgotten, numbers_left, row_of, said_first, with_number

MOST_STATES = 500


class Reached:
    """A state in which neither word was said, and the least weaving that leads to it by fewest events."""

    def __init__(self, loop, numbers, weaving, done):
        self.loop = loop
        # The works that have come, and how many turns are done.
        self.numbers = numbers
        self.weaving = weaving
        self.done = done


def always(loop, outside, first, second):
    """("always", rows) where the first word is said ahead whenever the second one is; else ("not", weaving)."""
    rows = {}
    # All states that are come to by just so many events, one more with each round.
    reached = new_ones(rows, [Reached(forgotten(loop), (), [], 0)])
    while reached:
        shown = []
        found = []
        for ahead in reached:
            step = behind_turn(ahead.loop)
            word = "none" if step is None else said_first(step[1], first, second)
            if word == "second":
                shown.append(weaving_to_end(ahead, outside))
            elif word is None:
                found.append(Reached(step[0], ahead.numbers, ahead.weaving, ahead.done + 1))
        if shown:
            return ("not", min(shown))
        reached = new_ones(rows, found + behind_comings(reached, outside))
    return ("always", list(rows))


def weaving_to_end(ahead, outside):
    """The weaving of a state whose next turn is the last that counts: what hasn't come stands behind that."""
    left = numbers_left(outside, ahead.numbers)
    return ahead.weaving + [(ahead.done + 1, number) for number in left]


def behind_comings(reached, outside):
    """The states behind each coming to one of these."""
    found = []
    for ahead in reached:
        for number in numbers_left(outside, ahead.numbers):
            twin = behind_coming(ahead.loop, outside, number)
            weaving = ahead.weaving + [(ahead.done, number)]
            found.append(Reached(twin, with_number(ahead.numbers, number), weaving, ahead.done))
    return found


def new_ones(rows, found):
    """Note the states that weren't come to by fewer events, each once with its least weaving."""
    new = {}
    for behind in found:
        row = row_of(behind.loop, behind.numbers)
        if row not in rows and (row not in new or behind.weaving < new[row].weaving):
            new[row] = behind
        if len(rows) + len(new) > MOST_STATES:
            raise TooMany(MOST_STATES)
    for row in new:
        rows[row] = True
    return list(new.values())
