"""Loops that several tests use, and what is told of them."""

from rankloop.loops import MOST, Loop


def loop_of(*scripts, **parts):
    """A loop with these works at rank 0."""
    loop = Loop(**parts)
    for script in scripts:
        loop.post(script)
    return loop


def done(*scripts, **parts):
    """A loop behind all turns of these works."""
    loop = loop_of(*scripts, **parts)
    loop.turns()
    return loop


def events(loop):
    """The journal without the clock."""
    return [row[1:] for row in loop.journal()]


def events_of(*scripts, **parts):
    """The events of these works."""
    return events(done(*scripts, **parts))


def behind(*scripts, **parts):
    """The events of these works but those that begin works and micros."""
    return [row for row in events_of(*scripts, **parts) if row[0] not in ("task", "micro", "idle")]


def said(loop):
    """What was said."""
    return [row[2] for row in loop.journal() if row[1] == "said"]


def said_by(*scripts, **parts):
    """What these works say."""
    return said(done(*scripts, **parts))


def steps(loop, most=MOST):
    """What a loop adds to its journal by each turn."""
    told = []
    before = len(loop.journal())
    while len(told) < most and loop.turn():
        told.append(loop.journal()[before:])
        before = len(loop.journal())
    return told


def say(*words):
    """A script that says these words."""
    return tuple([("say", word) for word in words])


ECHO = (("echo",),)
MAKE = ("make", "p")
