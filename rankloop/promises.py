"""Promises: made, settled, followed and taken.

What comes when a promise settles is a taker, a tuple:
(number, "work", work): the rest of a work that waits;
(number, "then", promise, kept, broken): one of the scripts, for a promise;
(number, "gather", promise, place): a place of all, any, first or each;
(None, "follow", promise): a promise that settles alike.
All but the last become micros, tuples too:
(number, "work", work, fate), fate None where the work begins;
(number, "settle", promise, fate);
(number, "gather", promise, place, fate).
"""

from rankloop.scripts import is_worth
from rankloop.states import OPEN, Promise, is_settled, write
from rankloop.works import Work

CANCELLED = ("broken", "cancel")


def make_promise(state, name, *, story=None, gather=None):
    """Make a promise, for which the name stands from now on; its number."""
    state.promises.append(Promise(story, gather))
    state.named[name] = len(state.promises) - 1
    return state.named[name]


def settle(state, number, fate):
    """Settle a promise; where it is settled already, or follows another one, that is told."""
    if state.promises[number].fate != OPEN:
        write(state, "again", number)
        return
    # A stack, not calls: rows of followers may be longer than Python's.
    coming = [(None, "follow", number)]
    while coming:
        taker = coming.pop()
        if taker[1] == "follow":
            coming.extend(takers_behind(state, taker[2], fate)[::-1])
        else:
            state.micros.append(micro_of(state, taker, fate))


def takers_behind(state, number, fate):
    """Settle a single promise; its takers."""
    promise = state.promises[number]
    takers = promise.takers
    promise.fate = fate
    promise.takers = []
    promise.gather = None
    write(state, fate[0], number, fate[1])
    if fate[0] == "broken" and not promise.taken:
        state.untold[number] = True
    return takers


def micro_of(state, taker, fate):
    """The micro that comes of a taker when its promise has this fate."""
    number, kind, *parts = taker
    if kind == "work":
        note_wait(state, parts[0], None)
    if kind != "then":
        return (*taker, fate)
    pledge, kept, broken = parts
    script = kept if fate[0] == "kept" else broken
    if script is None:
        return (number, "settle", pledge, fate)
    return (number, "work", Work(number, None, script, told=fate[1], pledge=pledge), None)


def put_taker(state, number, taker):
    """Put what comes when a promise settles: now, if it is."""
    promise = state.promises[number]
    if is_settled(state, number):
        state.micros.append(micro_of(state, taker, promise.fate))
    else:
        promise.takers.append(taker)


def take(state, number):
    """Note that somebody takes a promise; late, if it was told as unhandled."""
    promise = state.promises[number]
    if promise.fate[0] == "broken" and not promise.taken and number not in state.untold:
        write(state, "late", number)
    promise.taken = True
    state.untold.pop(number, None)


def tell_unhandled(state):
    """Tell of each broken promise that nobody took, once."""
    for number in state.untold:
        write(state, "unhandled", number)
    state.untold = {}


def wait_for(state, number, work):
    """Put the rest of a work behind a promise."""
    take(state, number)
    if not is_settled(state, number):
        note_wait(state, work, number)
    put_taker(state, number, (work.number, "work", work))


def note_wait(state, work, number):
    """Note where a work waits, so that cancel finds it."""
    if work.pledge is not None:
        promise = state.promises[work.pledge]
        promise.waits = number


def follow(state, number, other):
    """Have a promise settle as another one does."""
    promise = state.promises[number]
    if promise.fate != OPEN or end_of_row(state, other) == number:
        # Of one that isn't open that tells "again".
        settle(state, number, ("broken", "ring"))
        return
    take(state, other)
    if is_settled(state, other):
        settle(state, number, state.promises[other].fate)
        return
    promise.fate = ("follows", other)
    promise.gather = None
    promise.ahead = other
    put_taker(state, other, (None, "follow", number))


def end_of_row(state, number):
    """The promise at the end of the row of those that this one follows."""
    row = []
    while state.promises[number].fate[0] == "follows":
        row.append(number)
        number = state.promises[number].ahead
    # Later goings along this row are shorter by that.
    for follower in row:
        promise = state.promises[follower]
        promise.ahead = number
    return number


def cancel(state, number):
    """Cancel a story, once; at an open wait it comes as a micro now, else it is due to fail later."""
    promise = state.promises[number]
    if promise.story != "whole":
        return
    if promise.waits is None:
        promise.story = "due"
        return
    promise.story = "spent"
    source = state.promises[promise.waits]
    takers = [taker for taker in source.takers if is_rest_of(taker, number)]
    source.takers = [taker for taker in source.takers if not is_rest_of(taker, number)]
    state.micros.append(micro_of(state, takers[0], CANCELLED))


def is_rest_of(taker, number):
    """Whether a taker is the rest of the story with this promise."""
    return taker[1] == "work" and taker[2].pledge == number


def take_cancel(state, work):
    """Whether a work is due to fail with cancel here; it is so just once."""
    if work.pledge is None:
        return False
    promise = state.promises[work.pledge]
    if promise.story != "due":
        return False
    promise.story = "spent"
    return True


def gather_all(state, number, pledge, sources):
    """Take several promises for one that was made for them."""
    word = state.promises[pledge].gather[0]
    if not sources and word != "first":
        settle(state, pledge, outcome_of(word, (), None))
    for place, source in enumerate(sources):
        take(state, source)
        put_taker(state, source, (number, "gather", pledge, place))


def gather_fate(state, pledge, place, fate):
    """Note one of several fates, and settle the promise that was made for them where this shows how."""
    promise = state.promises[pledge]
    if promise.fate != OPEN:
        return
    word, fates = promise.gather
    fates = (*fates[:place], fate, *fates[place + 1:])
    promise.gather = (word, fates)
    outcome = outcome_of(word, fates, fate)
    if outcome is not None:
        settle(state, pledge, outcome)


def outcome_of(word, fates, fate):
    """How several fates settle a promise, the last one that came being this; None where it stays open."""
    if word == "first" or fate is not None and (word, fate[0]) in (("all", "broken"), ("any", "kept")):
        return fate
    if None in fates:
        return None
    worths = fates if word == "each" else tuple([worth for known, worth in fates])
    if not is_worth(worths):
        return ("broken", "deep")
    return ("broken" if word == "any" else "kept", worths)
