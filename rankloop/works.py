"""Works: what is still to be done of a script, and the guards around that.

What is to be done is a list of frames, the innermost one last:
("do", deeds): these deeds;
("part", second, last): a guard whose first part is under way;
("second", last): a guard whose second part is under way;
("last", reason): a guard whose last part is under way; behind it the work
fails again with the reason, where this isn't None.
"""

# The guards whose last parts haven't begun.
UNSHUT = ("part", "second")


class Work:
    """A script on its way.

    One that stands in a loop is never changed, so that copies of the loop may
    share it: what goes on is a twin of it.
    """

    def __init__(self, number, name, script, *, told=None, pledge=None):
        self.number = number
        self.name = name
        self.frames = [("do", script)] if script else []
        self.told = told
        self.gave = None
        # The number of the promise for its outcome.
        self.pledge = pledge
        self.begun = False


def taken_up(work):
    """A twin of a work, one that has begun."""
    twin = Work(work.number, work.name, (), told=work.told, pledge=work.pledge)
    twin.frames = list(work.frames)
    twin.gave = work.gave
    twin.begun = True
    return twin


def do_ahead(work, script):
    """Put a script ahead of all else that a work has to do."""
    if script:
        work.frames.append(("do", script))


def guard(work, script, second, last):
    """Put a guarded script ahead of all else that a work has to do."""
    work.frames.append(("part", second, last))
    do_ahead(work, script)


def has_deed(work):
    """Whether a deed is the next thing that a work has to do."""
    return work.frames[-1][0] == "do"


def next_deed(work):
    """Take the next deed off a work."""
    script = work.frames.pop()[1]
    do_ahead(work, script[1:])
    return script[0]


def leave_part(work):
    """Go on behind a guard's part that is done; the reason with which the work fails again, or None."""
    frame = work.frames.pop()
    if frame[0] == "last":
        return frame[1]
    shut(work, frame[-1], None)
    return None


def shut(work, last, reason):
    """Go on with a guard's last part."""
    work.frames.append(("last", reason))
    do_ahead(work, last)


def brought_to_guard(work, reason):
    """Go on with what the guards around have for a fault; whether there was one that takes it."""
    while work.frames:
        frame = work.frames.pop()
        if frame[0] == "part" and frame[1] is not None:
            work.told = reason
            work.frames.append(("second", frame[2]))
            do_ahead(work, frame[1])
            return True
        if frame[0] in UNSHUT:
            shut(work, frame[-1], reason)
            return True
    return False


def give(work, worth):
    """Leave all undone but the last parts that haven't begun; the outcome is this worth."""
    work.gave = worth
    work.frames = [frame for frame in work.frames if frame[0] in UNSHUT]
