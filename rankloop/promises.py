"""Promises: made, settled, followed and taken.

What comes when a promise settles is a taker, a tuple:
(number, "work", work): the rest of a work that waits;
(number, "then", promise, kept, broken): one of the scripts, for a promise;
(number, "gather", promise, place): a place of all, any, first or each;
(None, "follow", promise): a promise that settles alike.
All but the last become micros, tuples too:
(number, "work", work, fate), fate None where the work begins;
(number, "settle", promise, fate);
(number, "gather", promise, place, fate).
"""

from rankloop.scripts import is_worth
from rankloop.states import OPEN, SETTLED, is_settled, write
from rankloop.works import fresh

CANCELLED = ("broken", "cancel")


def make_promise(state, name):
    """Make a promise, for which the name stands from now on; its number."""
    number = len(state.fates)
    state.fates.append(OPEN)
    state.named[name] = number
    return number


def settle(state, number, fate):
    """Settle a promise; where it is settled already, or follows another one, that is told."""
    if state.fates[number] != OPEN:
        write(state, "again", number)
        return
    # A stack, not calls: rows of followers may be longer than Python's.
    coming = takers_behind(state, number, fate)
    while coming:
        taker = coming.pop()
        if taker[1] == "follow":
            coming.extend(takers_behind(state, taker[2], fate))
        else:
            state.micros.append(micro_of(state, taker, fate))


def takers_behind(state, number, fate):
    """Settle a single promise; its takers, the last one first."""
    word, worth = fate
    state.fates[number] = fate
    state.events.append((state.clock, word, number, worth))
    if word == "kept":
        state.taken.pop(number, None)
    elif number not in state.taken:
        state.untold[number] = True
    state.gathers.pop(number, None)
    return state.takers.pop(number, [])[::-1]


def micro_of(state, taker, fate):
    """The micro that comes of a taker when its promise has this fate."""
    kind = taker[1]
    if kind == "work":
        state.waits.pop(taker[2][5], None)
    if kind != "then":
        return (*taker, fate)
    number, kind, pledge, kept, broken = taker
    word, worth = fate
    script = kept if word == "kept" else broken
    if script is None:
        return (number, "settle", pledge, fate)
    return (number, "work", fresh(number, None, script, worth, pledge), None)


def put_taker(state, number, taker):
    """Put what comes when a promise settles: now, if it is."""
    fate = state.fates[number]
    if fate[0] in SETTLED:
        state.micros.append(micro_of(state, taker, fate))
    elif number in state.takers:
        state.takers[number].append(taker)
    else:
        state.takers[number] = [taker]


def take(state, number):
    """Note that somebody takes a promise; late, if it was told as unhandled."""
    if number in state.taken or state.fates[number][0] == "kept":
        return
    if state.fates[number][0] == "broken" and number not in state.untold:
        write(state, "late", number)
    state.taken[number] = True
    state.untold.pop(number, None)


def tell_unhandled(state):
    """Tell of each broken promise that nobody took, once."""
    for number in state.untold:
        write(state, "unhandled", number)
    state.untold = {}


def wait_for(state, number, work):
    """Put the rest of a work behind a promise."""
    take(state, number)
    pledge = work[5]
    if pledge in state.stories and not is_settled(state, number):
        # So that cancel finds it.
        state.waits[pledge] = number
    put_taker(state, number, (work[0], "work", work))


def follow(state, number, other):
    """Have a promise settle as another one does."""
    if state.fates[number] != OPEN or end_of_row(state, other) == number:
        # Of one that isn't open that tells "again".
        settle(state, number, ("broken", "ring"))
        return
    take(state, other)
    if is_settled(state, other):
        settle(state, number, state.fates[other])
        return
    state.fates[number] = ("follows", other)
    state.gathers.pop(number, None)
    state.ahead[number] = other
    put_taker(state, other, (None, "follow", number))


def end_of_row(state, number):
    """The promise at the end of the row of those that this one follows."""
    row = []
    while state.fates[number][0] == "follows":
        row.append(number)
        number = state.ahead[number]
    # Later goings along this row are shorter by that.
    for follower in row:
        state.ahead[follower] = number
    return number


def cancel(state, number):
    """Cancel a story, once; at an open wait it comes as a micro now, else it is due to fail later."""
    if state.stories[number] != "whole":
        return
    if number not in state.waits:
        state.stories[number] = "due"
        return
    state.stories[number] = "spent"
    source = state.waits[number]
    takers = state.takers[source]
    rest = takers.pop(place_of_rest(takers, number))
    if not takers:
        state.takers.pop(source)
    state.micros.append(micro_of(state, rest, CANCELLED))


def place_of_rest(takers, number):
    """The place at which the rest of the story with this promise stands among takers."""
    for at, taker in enumerate(takers):
        if taker[1] == "work" and taker[2][5] == number:
            return at
    return None


def take_cancel(state, pledge):
    """Whether the work with this promise is a story due to fail with cancel here; it is so just once."""
    if state.stories.get(pledge) != "due":
        return False
    state.stories[pledge] = "spent"
    return True


def gather_all(state, number, word, pledge, sources):
    """Take several promises for one that was made for them."""
    state.gathers[pledge] = (word, (None,) * len(sources))
    if not sources and word != "first":
        settle(state, pledge, outcome_of(word, (), None))
    for place, source in enumerate(sources):
        take(state, source)
        put_taker(state, source, (number, "gather", pledge, place))


def gather_fate(state, pledge, place, fate):
    """Note one of several fates, and settle the promise that was made for them where this shows how."""
    if state.fates[pledge] != OPEN:
        return
    word, fates = state.gathers[pledge]
    fates = (*fates[:place], fate, *fates[place + 1:])
    state.gathers[pledge] = (word, fates)
    outcome = outcome_of(word, fates, fate)
    if outcome is not None:
        settle(state, pledge, outcome)


def outcome_of(word, fates, fate):
    """How several fates settle a promise, the last one that came being this; None where it stays open."""
    if word == "first" or fate is not None and (word, fate[0]) in (("all", "broken"), ("any", "kept")):
        return fate
    if None in fates:
        return None
    worths = fates if word == "each" else tuple([worth for known, worth in fates])
    if not is_worth(worths):
        return ("broken", "deep")
    return ("broken" if word == "any" else "kept", worths)
