"""Weavings: works that come from outside at some turn, and all journals that they lead to."""

from rankloop.errors import TooMany
from rankloop.goings import come, comings_behind, events_of_turn, outside_of, take_back
from rankloop.journals import show_journal
from rankloop.looprows import standing_text
from rankloop.states import copied
from rankloop.turns import take_turn

MOST_TURNS = 60
MOST_JOURNALS = 200


def woven(loop, outside, weaving, *, most=MOST_TURNS):
    """The journal that a loop adds by a weaving, going on until nothing is left, or most turns are done."""
    twin = loop.copy()
    twin.forget()
    coming = list(weaving)
    done = 0
    while done < most:
        while coming and coming[0][0] <= done:
            post_outside(twin, outside, coming.pop(0))
        if take_turn(twin.state):
            done += 1
        elif coming:
            post_outside(twin, outside, coming.pop(0))
        else:
            break
    return twin.journal()


def post_outside(loop, outside, coming):
    """Post the work of a weaving's tuple."""
    rank, name, script = outside[coming[1]]
    loop.post(script, rank=rank, name=name)


class Going:
    """A loop on its way: the number of its journal so far, how its works have come, and how many turns are done."""

    def __init__(self, state, past, numbers, weaving, done):
        self.state = state
        self.past = past
        self.numbers = numbers
        self.weaving = weaving
        self.done = done


class Search:
    """What was found so far."""

    def __init__(self, outside, patience):
        self.outside = outside
        # The ranks without patience: nothing that comes hangs on their passes.
        self.careless = [rank for rank, bears in enumerate(patience) if bears is None]
        # Journals go by numbers: of each its text, and by such a number and what a turn adds the one behind.
        self.texts = [""]
        self.longer = {}
        # All that was come to, and what is to be gone on with, the least weaving last.
        self.seen = {}
        self.steps = []
        # What comes where no more works do, by how many turns are done and what stands in the loop.
        self.ends = {}
        self.found = {}


def weavings(loop, outside, *, most=MOST_JOURNALS):
    """All unlike journals, sorted by their texts, each with the least weaving that leads to it."""
    found = found_weavings(loop, outside, most) if outside else {show_journal(woven(loop, [], [])): []}
    if len(found) > most:
        raise TooMany(most)
    return [(text, found[text]) for text in sorted(found)]


def found_weavings(loop, outside, most):
    """The least weaving for each journal, by texts; where there are more than most, not all of them."""
    start = loop.copy()
    start.forget()
    state = start.state
    search = Search(outside_of(state, outside), state.setup.patience)
    blur(search, state)
    go_on_from(search, Going(state, 0, (), [], 0), standing_text(state))
    # The least weaving goes on first, so whatever is come to once more was first come to by a lesser one.
    while search.steps and len(search.found) <= most:
        going, coming = search.steps.pop()
        if coming is None:
            add_turn(search, going)
        else:
            add_coming(search, going, coming)
    return search.found


def blur(search, state):
    """Begin anew with the passes of ranks without patience."""
    for rank in search.careless:
        state.since[rank] = state.picks


def is_new(search, place):
    """Whether a place wasn't come to yet: what has been, and all that what comes hangs on."""
    if place in search.seen:
        return False
    search.seen[place] = True
    return True


def go_on_from(search, going, text):
    """Note what may come next; of the last turns the journal is told."""
    comings = comings_behind(search.outside, going.numbers)
    if comings and going.done < MOST_TURNS:
        # Last the turn, which is done in place.
        search.steps.append((going, None))
        search.steps.extend([(going, coming) for coming in comings[::-1]])
    else:
        weaving = going.weaving + [(going.done, place) for place, numbers in comings]
        search.found.setdefault(whole_text(search, going, text), weaving)


def add_coming(search, going, coming):
    """Go on behind a coming."""
    place, numbers = coming
    state = going.state
    come(state, search.outside, place)
    text = standing_text(state)
    if is_new(search, (going.done, going.past, numbers, text)):
        weaving = [*going.weaving, (going.done, place)]
        go_on_from(search, Going(copied(state), going.past, numbers, weaving, going.done), text)
    take_back(state, search.outside, place)


def add_turn(search, going):
    """Go on behind a turn, if there is one."""
    events = events_of_turn(going.state)
    if events is not None:
        blur(search, going.state)
        going.done += 1
        going.past = journal_behind(search, going.past, tuple(events))
        text = standing_text(going.state)
        if is_new(search, (going.done, going.past, going.numbers, text)):
            go_on_from(search, going, text)


def journal_behind(search, journal, events):
    """The number of a journal with more events behind."""
    if (journal, events) not in search.longer:
        search.longer[(journal, events)] = len(search.texts)
        search.texts.append(search.texts[journal] + rows_of_text(events))
    return search.longer[(journal, events)]


def whole_text(search, going, text):
    """The text of the whole journal, where no more works come."""
    state = going.state
    done = going.done
    # The turns that are left, as far as none of them leads to where one was before.
    turns = []
    while (done, text) not in search.ends:
        events = events_of_turn(state) if done < MOST_TURNS else None
        if events is None:
            search.ends[(done, text)] = ""
        else:
            turns.append((done, text, rows_of_text(events)))
            blur(search, state)
            done += 1
            text = standing_text(state)
    end = search.ends[(done, text)]
    for place, standing, rows in turns[::-1]:
        end = rows + end
        search.ends[(place, standing)] = end
    return (search.texts[going.past] + end).removesuffix("\n")


def rows_of_text(events):
    """The text of events, with a line end behind each row."""
    return show_journal(events) + "\n" if events else ""
