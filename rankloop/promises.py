"""Promises: made, settled, followed and taken.

What comes when a promise settles is a taker, a tuple:
(number, "work", work): the rest of a work that waits;
(number, "then", promise, kept, broken): one of the scripts, for a promise;
(number, "gather", promise, place): a place of all, any, first or each;
(None, "follow", promise): a promise that settles alike.
All but the last become micros, tuples too:
(number, "work", work, fate), fate None where the work begins;
(number, "settle", promise, fate);
(number, "gather", promise, place, fate).
Where a def has a book, it is the loop's own one, to be changed.
"""

from rankloop.scripts import is_worth
from rankloop.states import OPEN, SETTLED, own_book
from rankloop.works import Work

CANCELLED = ("broken", "cancel")


def make_promise(book, name):
    """Make a promise, for which the name stands from now on; its number."""
    number = len(book.fates)
    book.fates.append(OPEN)
    book.named[name] = number
    return number


def settle(state, number, fate):
    """Settle a promise; where it is settled already, or follows another one, that is told."""
    book = state.book
    if book.fates[number] != OPEN:
        state.events.append((state.clock, "again", number))
        return
    if book.shared or book.text is not None:
        book = own_book(state)
    # A stack, not calls: rows of followers may be longer than Python's.
    coming = takers_behind(state, book, number, fate)
    while coming:
        taker = coming.pop()
        if taker[1] == "follow":
            coming.extend(takers_behind(state, book, taker[2], fate))
        else:
            state.micros.append(micro_of(book, taker, fate))


def takers_behind(state, book, number, fate):
    """Settle a single promise; its takers, the last one first."""
    word, worth = fate
    book.fates[number] = fate
    state.events.append((state.clock, word, number, worth))
    if word == "kept":
        book.taken.pop(number, None)
    elif number not in book.taken:
        book.untold[number] = True
    book.gathers.pop(number, None)
    return book.takers.pop(number)[::-1] if number in book.takers else []


def micro_of(book, taker, fate):
    """The micro that comes of a taker when its promise has this fate."""
    kind = taker[1]
    if kind == "work":
        book.waits.pop(taker[2].pledge, None)
    if kind != "then":
        return (*taker, fate)
    number, kind, pledge, kept, broken = taker
    word, worth = fate
    script = kept if word == "kept" else broken
    if script is None:
        return (number, "settle", pledge, fate)
    return (number, "work", Work(number, None, script, worth, pledge, None), None)


def put_taker(state, book, number, taker):
    """Put what comes when a promise settles: now, if it is."""
    fate = book.fates[number]
    if fate[0] in SETTLED:
        state.micros.append(micro_of(book, taker, fate))
    elif number in book.takers:
        book.takers[number].append(taker)
    else:
        book.takers[number] = [taker]


def take(state, book, number):
    """Note that somebody takes a promise; late, if it was told as unhandled."""
    word = book.fates[number][0]
    if word == "kept" or number in book.taken:
        return
    if word == "broken" and number not in book.untold:
        state.events.append((state.clock, "late", number))
    book.taken[number] = True
    book.untold.pop(number, None)


def tell_unhandled(state):
    """Tell of each broken promise that nobody took, once."""
    book = own_book(state)
    for number in book.untold:
        state.events.append((state.clock, "unhandled", number))
    book.untold = {}


def wait_for(state, number, work):
    """Put the rest of a work behind a promise."""
    book = own_book(state)
    take(state, book, number)
    if work.pledge in book.stories and book.fates[number][0] not in SETTLED:
        # So that cancel finds it.
        book.waits[work.pledge] = number
    put_taker(state, book, number, (work.number, "work", work))


def follow(state, number, other):
    """Have a promise settle as another one does."""
    book = own_book(state)
    if book.fates[number] != OPEN or end_of_row(book, other) == number:
        # Of one that isn't open that tells "again".
        settle(state, number, ("broken", "ring"))
        return
    take(state, book, other)
    if book.fates[other][0] in SETTLED:
        settle(state, number, book.fates[other])
        return
    book.fates[number] = ("follows", other)
    book.gathers.pop(number, None)
    book.ahead[number] = other
    put_taker(state, book, other, (None, "follow", number))


def end_of_row(book, number):
    """The promise at the end of the row of those that this one follows."""
    row = []
    while book.fates[number][0] == "follows":
        row.append(number)
        number = book.ahead[number]
    # Later goings along this row are shorter by that.
    for follower in row:
        book.ahead[follower] = number
    return number


def cancel(state, number):
    """Cancel a story, once; at an open wait it comes as a micro now, else it is due to fail later."""
    if state.book.stories[number] != "whole":
        return
    book = own_book(state)
    if number not in book.waits:
        book.stories[number] = "due"
        return
    book.stories[number] = "spent"
    source = book.waits[number]
    takers = book.takers[source]
    rest = takers.pop(place_of_rest(takers, number))
    if not takers:
        book.takers.pop(source)
    state.micros.append(micro_of(book, rest, CANCELLED))


def place_of_rest(takers, number):
    """The place at which the rest of the story with this promise stands among takers."""
    for at, taker in enumerate(takers):
        if taker[1] == "work" and taker[2].pledge == number:
            return at
    return None


def take_cancel(state, pledge):
    """Whether the work with this promise is a story due to fail with cancel here; it is so just once."""
    if state.book.stories.get(pledge) != "due":
        return False
    spend_story(state, pledge)
    return True


def spend_story(state, pledge):
    """Note that the story with this promise isn't to be cancelled any more."""
    book = own_book(state)
    book.stories[pledge] = "spent"


def gather_all(state, book, number, word, pledge, sources):
    """Take several promises for one that was made for them."""
    book.gathers[pledge] = (word, (None,) * len(sources))
    if not sources and word != "first":
        settle(state, pledge, outcome_of(word, (), None))
    for place, source in enumerate(sources):
        take(state, book, source)
        put_taker(state, book, source, (number, "gather", pledge, place))


def gather_fate(state, pledge, place, fate):
    """Note one of several fates, and settle the promise that was made for them where this shows how."""
    if state.book.fates[pledge] != OPEN:
        return
    book = own_book(state)
    word, fates = book.gathers[pledge]
    fates = (*fates[:place], fate, *fates[place + 1:])
    book.gathers[pledge] = (word, fates)
    outcome = outcome_of(word, fates, fate)
    if outcome is not None:
        settle(state, pledge, outcome)


def outcome_of(word, fates, fate):
    """How several fates settle a promise, the last one that came being this; None where it stays open."""
    if word == "first" or fate is not None and (word, fate[0]) in (("all", "broken"), ("any", "kept")):
        return fate
    if None in fates:
        return None
    worths = fates if word == "each" else tuple([worth for known, worth in fates])
    if not is_worth(worths):
        return ("broken", "deep")
    return ("broken" if word == "any" else "kept", worths)
