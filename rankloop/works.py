"""Works: what is still to be done of a script, and the guards around that.

Frames are what is to be done behind the script under way, the innermost one
last:
("do", deeds): these deeds, at least one;
("part", second, last): a guard whose first part is under way;
("second", last): a guard whose second part is under way;
("last", reason): a guard whose last part is under way; behind it the work
fails again with the reason, where this isn't None.
"""

# The guards whose last parts haven't begun.
UNSHUT = ("part", "second")


class Work:
    """A work that stands in a loop; copies of the loop share it, so it is never changed.

    Pledge is the number of the promise for its outcome. Around is None where
    it hasn't begun, else a tuple of the frames and of what it gave. Text is
    None until it is asked, see looprows.py.
    """

    def __init__(self, number, name, script, told, pledge, around):
        self.number = number
        self.name = name
        self.script = script
        self.told = told
        self.pledge = pledge
        self.around = around
        self.text = None


class Doing:
    """A work that is being done: the deeds of a script from a place on, and the frames around them."""

    def __init__(self, work):
        self.work = work
        self.script = work.script
        self.at = 0
        self.told = work.told
        if work.around is None:
            self.frames = ()
            self.gave = None
        else:
            self.frames, self.gave = work.around


def rest_of(doing):
    """What is still to be done of a work, as one that has begun."""
    script = doing.script[doing.at:]
    frames = doing.frames
    if not script and frames and frames[-1][0] == "do":
        # So that there is just one way to write what is left.
        script = frames[-1][1]
        frames = frames[:-1]
    work = doing.work
    return Work(work.number, work.name, script, doing.told, work.pledge, (frames, doing.gave))


def do_ahead(doing, script):
    """Put a script ahead of all else that a work has to do."""
    rest = doing.script[doing.at:]
    if rest:
        doing.frames = (*doing.frames, ("do", rest))
    go_to(doing, script)


def go_to(doing, script):
    """Go on with a script; nothing is left of the one ahead."""
    doing.script = script
    doing.at = 0


def guard(doing, script, second, last):
    """Put a guarded script ahead of all else that a work has to do."""
    do_ahead(doing, ())
    doing.frames = (*doing.frames, ("part", second, last))
    go_to(doing, script)


def take_frame(doing):
    """Take the innermost frame."""
    frame = doing.frames[-1]
    doing.frames = doing.frames[:-1]
    return frame


def leave_frame(doing):
    """Go on with the frame around what is done; the reason with which the work fails again, or None."""
    frame = take_frame(doing)
    if frame[0] == "last":
        return frame[1]
    if frame[0] == "do":
        go_to(doing, frame[1])
    else:
        shut(doing, frame[-1], None)
    return None


def shut(doing, last, reason):
    """Go on with a guard's last part."""
    doing.frames = (*doing.frames, ("last", reason))
    go_to(doing, last)


def brought_to_guard(doing, reason):
    """Go on with what the guards around have for a fault; whether there was one that takes it."""
    while doing.frames:
        frame = take_frame(doing)
        if frame[0] == "part" and frame[1] is not None:
            doing.told = reason
            doing.frames = (*doing.frames, ("second", frame[2]))
            go_to(doing, frame[1])
            return True
        if frame[0] in UNSHUT:
            shut(doing, frame[-1], reason)
            return True
    return False


def give(doing, worth):
    """Leave all undone but the last parts that haven't begun; the outcome is this worth."""
    doing.gave = worth
    doing.frames = tuple([frame for frame in doing.frames if frame[0] in UNSHUT])
    go_to(doing, ())
