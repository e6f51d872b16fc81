"""Journals as texts, and whether a journal is what a loop's next turns would add."""

from rankloop.loops import MOST
from rankloop.scripts import is_whole
from rankloop.scripttexts import show_event


def first_wrong(loop, journal, *, turns=MOST):
    """The number of the first event that isn't the one that so many turns would add; None where all are."""
    if not isinstance(journal, list):
        return 0
    events = events_ahead(loop, turns)
    at = 0
    for event, thing in zip(events, journal):
        if thing != event:
            return at
        for part in thing:
            # Most are words, or whole numbers.
            if not isinstance(part, str) and (part is True or part is False or not isinstance(part, int)):
                if not is_part(part):
                    return at
        at += 1
    return None if len(journal) == len(events) else at


def events_ahead(loop, many):
    """What a loop's next turns, so many, would add to its journal."""
    twin = loop.copy()
    twin.forget()
    twin.turns(many)
    return twin.journal()


def is_part(thing):
    """Whether a thing that equals a part of an event is of its kind, too: True equals 1, and yet is no number."""
    if isinstance(thing, tuple):
        return all([is_part(inner) for inner in thing])
    return thing is None or isinstance(thing, str) or is_whole(thing)


def show_journal(journal):
    """The text of a journal: a row for each event."""
    return "\n".join([show_event(event) for event in journal])
