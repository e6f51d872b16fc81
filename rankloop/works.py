"""Works: what is still to be done of a script, and the guards around that.

A work that stands in a loop is a tuple, so that copies of the loop share it:
(number, name, frames, told, gave, pledge, begun). Pledge is the number of the
promise for its outcome, begun 1 or 0. Frames are what is still to be done, the
innermost one last:
("do", deeds): these deeds;
("part", second, last): a guard whose first part is under way;
("second", last): a guard whose second part is under way;
("last", reason): a guard whose last part is under way; behind it the work
fails again with the reason, where this isn't None.
"""

# The guards whose last parts haven't begun.
UNSHUT = ("part", "second")


class Doing:
    """A work that is being done: the deeds of a script from a place on, and the frames around them."""

    __slots__ = ("number", "name", "frames", "script", "at", "told", "gave", "pledge")

    def __init__(self, work):
        number, name, frames, told, gave, pledge, begun = work
        self.number = number
        self.name = name
        if frames and frames[-1][0] == "do":
            self.frames = list(frames[:-1])
            self.script = frames[-1][1]
        else:
            self.frames = list(frames)
            self.script = ()
        self.at = 0
        self.told = told
        self.gave = gave
        self.pledge = pledge


def fresh(number, name, script, told, pledge):
    """A work that hasn't begun."""
    return (number, name, (("do", script),) if script else (), told, None, pledge, 0)


def rest_of(doing):
    """What is still to be done of a work, as one that has begun."""
    rest = doing.script[doing.at:]
    frames = (*doing.frames, ("do", rest)) if rest else tuple(doing.frames)
    return (doing.number, doing.name, frames, doing.told, doing.gave, doing.pledge, 1)


def do_ahead(doing, script):
    """Put a script ahead of all else that a work has to do."""
    rest = doing.script[doing.at:]
    if rest:
        doing.frames.append(("do", rest))
    go_to(doing, script)


def go_to(doing, script):
    """Go on with a script; nothing is left of the one ahead."""
    doing.script = script
    doing.at = 0


def guard(doing, script, second, last):
    """Put a guarded script ahead of all else that a work has to do."""
    do_ahead(doing, ())
    doing.frames.append(("part", second, last))
    go_to(doing, script)


def leave_frame(doing):
    """Go on with the frame around what is done; the reason with which the work fails again, or None."""
    frame = doing.frames.pop()
    if frame[0] == "last":
        return frame[1]
    if frame[0] == "do":
        go_to(doing, frame[1])
    else:
        shut(doing, frame[-1], None)
    return None


def shut(doing, last, reason):
    """Go on with a guard's last part."""
    doing.frames.append(("last", reason))
    go_to(doing, last)


def brought_to_guard(doing, reason):
    """Go on with what the guards around have for a fault; whether there was one that takes it."""
    while doing.frames:
        frame = doing.frames.pop()
        if frame[0] == "part" and frame[1] is not None:
            doing.told = reason
            doing.frames.append(("second", frame[2]))
            go_to(doing, frame[1])
            return True
        if frame[0] in UNSHUT:
            shut(doing, frame[-1], reason)
            return True
    return False


def give(doing, worth):
    """Leave all undone but the last parts that haven't begun; the outcome is this worth."""
    doing.gave = worth
    doing.frames = [frame for frame in doing.frames if frame[0] in UNSHUT]
    go_to(doing, ())
