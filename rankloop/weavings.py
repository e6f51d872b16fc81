"""Weavings: works that come from outside at some turn, and all journals that they lead to."""

from rankloop.errors import TooMany
from rankloop.goings import behind_coming, behind_turn, come, forgotten
from rankloop.journals import show_journal

MOST_TURNS = 60
MOST_JOURNALS = 200


def woven(loop, outside, weaving, *, most=MOST_TURNS):
    """The journal that a loop adds by a weaving, going on until nothing is left, or most turns are done."""
    twin = forgotten(loop)
    coming = list(weaving)
    done = 0
    while done < most:
        while coming and coming[0][0] <= done:
            come(twin, outside, coming.pop(0)[1])
        if twin.turn():
            done += 1
        elif coming:
            come(twin, outside, coming.pop(0)[1])
        else:
            break
    return twin.journal()


class Going:
    """A loop on its way: the rows of its journal so far, how its works have come, and how many turns are done."""

    def __init__(self, loop, text, weaving, done):
        self.loop = blurred(loop)
        self.text = text
        self.weaving = weaving
        self.done = done


def weavings(loop, outside, *, most=MOST_JOURNALS):
    """All unlike journals, sorted by their texts, each with the least weaving that leads to it."""
    found = {}
    seen = {}
    # The least weaving goes on first, so whatever is come to once more was first come to by a lesser one.
    goings = [Going(forgotten(loop), "", [], 0)]
    while goings:
        going = goings.pop()
        place = place_of(going)
        if place in seen:
            continue
        seen[place] = True
        left = left_of(outside, going)
        if going.done == MOST_TURNS or not left:
            found.setdefault(text_at_end(going), going.weaving + [(going.done, number) for number in left])
        else:
            goings.extend(goings_behind(outside, going, left)[::-1])
        if len(found) > most:
            raise TooMany(most)
    return [(text, found[text]) for text in sorted(found)]


def blurred(loop):
    """A loop with 0 for any passes of ranks without patience: nothing that comes hangs on these."""
    state = loop.state
    patience = state.patience
    state.passed = [0 if many is not None and bears is None else many for many, bears in zip(state.passed, patience)]
    return loop


def place_of(going):
    """What has been, and all that what comes hangs on."""
    numbers = tuple(sorted([number for turns, number in going.weaving]))
    return (going.done, numbers, going.text, str(going.loop))


def left_of(outside, going):
    """The numbers of the works that haven't come."""
    numbers = [number for turns, number in going.weaving]
    return [number for number in range(len(outside)) if number not in numbers]


def goings_behind(outside, going, left):
    """The goings behind each coming and behind a turn, the one with the least weaving first."""
    goings = []
    for number in left:
        twin = behind_coming(going.loop, outside, number)
        goings.append(Going(twin, going.text, going.weaving + [(going.done, number)], going.done))
    step = behind_turn(going.loop)
    if step is not None:
        twin, events = step
        goings.append(Going(twin, going.text + rows_of_text(events), going.weaving, going.done + 1))
    return goings


def text_at_end(going):
    """The text of the whole journal, where no more works come."""
    twin = forgotten(going.loop)
    twin.turns(MOST_TURNS - going.done)
    return (going.text + rows_of_text(twin.journal())).removesuffix("\n")


def rows_of_text(events):
    """The text of events, with a line end behind each row."""
    return show_journal(events) + "\n" if events else ""
