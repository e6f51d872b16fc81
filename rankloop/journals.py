"""Journals as texts, and whether a journal is what a loop's next turns would add."""

from rankloop.loops import MOST
from rankloop.scripts import is_whole
from rankloop.scripttexts import show_parts


def first_wrong(loop, journal, *, turns=MOST):
    """The number of the first event that isn't the one that so many turns would add; None where all are."""
    if not isinstance(journal, list):
        return 0
    events = events_ahead(loop, turns)
    for at, event in enumerate(events):
        if at == len(journal) or not is_alike(journal[at], event):
            return at
    return None if len(journal) == len(events) else len(events)


def events_ahead(loop, many):
    """What a loop's next turns, so many, would add to its journal."""
    twin = loop.copy()
    twin.forget()
    twin.turns(many)
    return twin.journal()


def is_alike(thing, part):
    """Whether a thing is this event or part of one, of the same kind too."""
    if isinstance(part, tuple):
        if not isinstance(thing, tuple) or len(thing) != len(part):
            return False
        return all([is_alike(inner, wanted) for inner, wanted in zip(thing, part)])
    if isinstance(part, str):
        return isinstance(thing, str) and thing == part
    if part is None:
        return thing is None
    return is_whole(thing) and thing == part


def show_journal(journal):
    """The text of a journal: a row for each event."""
    return "\n".join([show_parts(event) for event in journal])
