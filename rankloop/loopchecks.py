"""What the parts of a loop's rows must be, each for itself; how they hang together is told in loopties.py."""

from rankloop.scripts import MOST_NAMES, is_between, is_from_0, is_gap, is_script, is_word, is_worth
from rankloop.states import OPEN

WHYS = ("overdue", "least")
STORIES = (None, "whole", "due", "spent")
# Of all, any, first, each the fates that may have come while their promise is open.
GATHERED = {"all": ("kept",), "any": ("broken",), "first": (), "each": ("kept", "broken")}
# The kinds of the parts of each event behind its clock and word.
EVENTS = {
    "task": ("work", "rank", "why"),
    "idle": ("work", "left"),
    "micro": ("work",),
    "leap": ("count",),
    "said": ("worth",),
    "kept": ("promise", "worth"),
    "broken": ("promise", "reason"),
    "again": ("promise",),
    "fault": ("work", "reason"),
    "unhandled": ("promise",),
    "late": ("promise",),
    "flood": ("count",),
    "run": ("promise",),
    "ran": ("promise",),
    "stuck": ("promise",),
}


class Bounds:
    """How many ranks, numbers of works and promises a loop has."""

    def __init__(self, ranks, works, pledges):
        self.ranks = ranks
        self.works = works
        self.pledges = pledges


def is_tuple_of(thing, many):
    """Whether it is a tuple of so many parts."""
    return isinstance(thing, tuple) and len(thing) == many


def is_head(parts):
    """Whether these are patiences, flood, deep, clock and how many numbers works have."""
    if len(parts) != 5:
        return False
    patience, flood, deep, clock, works = parts
    if not isinstance(patience, tuple) or len(patience) == 0:
        return False
    if not all([bears is None or is_from_0(bears) for bears in patience]):
        return False
    return all([is_from_0(count) for count in (flood, deep, clock, works)])


def is_truth(thing, bounds):
    """Whether it stands for a truth."""
    return is_between(thing, 0, 1)


def is_rank(thing, bounds):
    """Whether it is a rank of the loop."""
    return is_between(thing, 0, bounds.ranks - 1)


def is_work_number(thing, bounds):
    """Whether a work has, or had, this number."""
    return is_between(thing, 0, bounds.works - 1)


def is_promise_number(thing, bounds):
    """Whether a promise has this number."""
    return is_between(thing, 0, bounds.pledges - 1)


def is_reason(thing, bounds):
    """Whether a promise may be broken with it: a word, or a tuple of such."""
    return is_worth(thing) and is_made_of_words(thing)


def is_made_of_words(worth):
    """Whether a worth is a word, or a tuple of such."""
    if isinstance(worth, tuple):
        return all([is_made_of_words(part) for part in worth])
    return isinstance(worth, str)


def is_outcome(thing, bounds):
    """Whether it is the fate of a settled promise."""
    if not is_tuple_of(thing, 2):
        return False
    word, worth = thing
    return word == "kept" and is_worth(worth) or word == "broken" and is_reason(worth, bounds)


def is_fate(thing, bounds):
    """Whether it is the fate of a promise."""
    if is_tuple_of(thing, 2) and thing[0] == "follows":
        return is_promise_number(thing[1], bounds)
    return thing == OPEN or is_outcome(thing, bounds)


def is_perhaps(thing):
    """Whether it is a script or None."""
    return thing is None or is_script(thing)


def is_frame(thing, bounds):
    """Whether it is a frame as in works.py."""
    if not isinstance(thing, tuple) or not 2 <= len(thing) <= 3:
        return False
    if thing[0] == "part":
        return len(thing) == 3 and is_perhaps(thing[1]) and is_script(thing[2])
    if len(thing) != 2:
        return False
    word, part = thing
    if word == "do":
        return is_script(part) and len(part) > 0
    return word == "second" and is_script(part) or word == "last" and (part is None or is_reason(part, bounds))


def is_standing(thing, bounds):
    """Whether these are the parts that each work in a text has: number, name, script, what it was told, pledge."""
    if not isinstance(thing, tuple) or len(thing) < 5:
        return False
    number, name, script, told, pledge = thing[:5]
    if not is_work_number(number, bounds) or not is_script(script) or not is_worth(told):
        return False
    if pledge is not None:
        # It came as a micro, and these have no names.
        return is_promise_number(pledge, bounds) and name is None
    return name is None or is_word(name)


def is_begun(thing, bounds):
    """Whether these are the parts of a work that has begun: frames, and what it gave, behind the others."""
    if not is_standing(thing, bounds) or len(thing) != 7:
        return False
    script, frames, gave = thing[2], thing[5], thing[6]
    if not isinstance(frames, tuple) or not all([is_frame(frame, bounds) for frame in frames]):
        return False
    # Where nothing is left of a script the one around it is under way.
    return is_worth(gave) and (len(script) > 0 or len(frames) == 0 or frames[-1][0] != "do")


def is_fresh(thing, bounds):
    """Whether these are the parts of a work that hasn't begun."""
    return is_standing(thing, bounds) and len(thing) == 5


def is_in_line(thing, bounds):
    """Whether a work may stand in a line: with a name and no promise, where it hasn't begun."""
    if is_fresh(thing, bounds):
        return thing[1] is not None and thing[4] is None
    return is_begun(thing, bounds)


def is_line(parts, bounds):
    """Whether these are the passes and the works of a line; nothing where it has none."""
    if not parts:
        return True
    return len(parts) > 1 and is_from_0(parts[0]) and all([is_in_line(work, bounds) for work in parts[1:]])


def is_timer(parts, bounds):
    """Whether these are a timer's due, number, gap, rank, name and script."""
    if len(parts) != 6:
        return False
    due, number, gap, rank, name, script = parts
    if not is_from_0(due) or not is_work_number(number, bounds) or not is_rank(rank, bounds):
        return False
    return (gap is None or is_gap(gap)) and is_word(name) and is_script(script)


def is_idle(parts, bounds):
    """Whether these are those of an idle work: it goes to the last rank, once, and its due may be None."""
    if len(parts) != 6 or parts[2] is not None or parts[3] != bounds.ranks - 1:
        return False
    return is_timer(parts if parts[0] is not None else (0, *parts[1:]), bounds)


def is_micro(parts, bounds):
    """Whether these are a micro as in promises.py."""
    if not 4 <= len(parts) <= 5 or not is_work_number(parts[0], bounds):
        return False
    if parts[1] == "gather":
        return len(parts) == 5 and is_place(parts[2:4], bounds) and is_outcome(parts[4], bounds)
    if len(parts) != 4:
        return False
    number, kind, thing, fate = parts
    if kind == "settle":
        return is_promise_number(thing, bounds) and is_outcome(fate, bounds)
    if kind != "work":
        return False
    if fate is None:
        return is_fresh(thing, bounds) and thing[0] == number and thing[1] is None
    return is_begun(thing, bounds) and thing[0] == number and is_outcome(fate, bounds)


def is_place(parts, bounds):
    """Whether these are the promise of all, any, first or each, and a place of it."""
    return is_promise_number(parts[0], bounds) and is_between(parts[1], 0, MOST_NAMES - 1)


def is_taker(thing, bounds):
    """Whether it is a taker as in promises.py."""
    if not isinstance(thing, tuple) or not 3 <= len(thing) <= 5:
        return False
    number, kind, *parts = thing
    if kind == "follow":
        return number is None and len(parts) == 1 and is_promise_number(parts[0], bounds)
    if not is_work_number(number, bounds):
        return False
    if kind == "work":
        return len(parts) == 1 and is_begun(parts[0], bounds) and parts[0][0] == number
    if kind == "gather":
        return len(parts) == 2 and is_place(parts, bounds)
    if kind != "then" or len(parts) != 3:
        return False
    return is_promise_number(parts[0], bounds) and is_perhaps(parts[1]) and is_perhaps(parts[2])


def is_gather(thing, bounds):
    """Whether it is what has come of several promises, such that the one for them stays open; None of no such one."""
    if thing is None:
        return True
    if not is_tuple_of(thing, 2) or not isinstance(thing[0], str) or thing[0] not in GATHERED:
        return False
    word, fates = thing
    if not isinstance(fates, tuple) or len(fates) > MOST_NAMES:
        return False
    if not all([fate is None or is_outcome(fate, bounds) and fate[0] in GATHERED[word] for fate in fates]):
        return False
    return None in fates or word == "first"


def is_promise(parts, bounds):
    """Whether these are the fate of a promise, whether it is taken, what is gathered, its story, and its takers."""
    if len(parts) < 4:
        return False
    fate, taken, gather, story, *takers = parts
    if not is_fate(fate, bounds) or not is_truth(taken, bounds) or not is_gather(gather, bounds):
        return False
    if story not in STORIES or gather is not None and (fate != OPEN or story is not None):
        return False
    if takers and (is_outcome(fate, bounds) or taken == 0) or fate[0] == "kept" and taken == 1:
        return False
    return all([is_taker(taker, bounds) for taker in takers])


def is_name(parts, bounds):
    """Whether these are a name and the number of a promise."""
    return len(parts) == 2 and is_word(parts[0]) and is_promise_number(parts[1], bounds)


def is_untold(parts, bounds):
    """Whether these are numbers of promises, at least one."""
    return len(parts) > 0 and all([is_promise_number(number, bounds) for number in parts])


def is_run(parts, bounds):
    """Whether these are a work and the number of the promise that it runs for."""
    return len(parts) == 2 and is_begun(parts[0], bounds) and is_promise_number(parts[1], bounds)


def is_asking(parts, bounds):
    """Whether these are the work that a def broke off, the micros done, and whether a flood was told."""
    return len(parts) == 3 and is_begun(parts[0], bounds) and is_from_0(parts[1]) and is_truth(parts[2], bounds)


def is_why(thing, bounds):
    """Whether a rank may be chosen for it."""
    return thing in WHYS


def is_left(thing, bounds):
    """Whether an idle work may be told it."""
    return thing is None or is_from_0(thing)


def is_some_worth(thing, bounds):
    """Whether it is a worth."""
    return is_worth(thing)


def is_some_count(thing, bounds):
    """Whether it is a whole number from 0 on."""
    return is_from_0(thing)


EVENT_CHECKS = {
    "work": is_work_number,
    "rank": is_rank,
    "why": is_why,
    "left": is_left,
    "count": is_some_count,
    "worth": is_some_worth,
    "promise": is_promise_number,
    "reason": is_reason,
}


def is_event(parts, bounds):
    """Whether it is an event of a journal."""
    if len(parts) < 2 or not is_from_0(parts[0]) or not isinstance(parts[1], str) or parts[1] not in EVENTS:
        return False
    kinds = EVENTS[parts[1]]
    return len(parts) == 2 + len(kinds) and all([fits(kind, part, bounds) for kind, part in zip(kinds, parts[2:])])


def fits(kind, part, bounds):
    """Whether a part of an event is of this kind."""
    check = EVENT_CHECKS[kind]
    return check(part, bounds)


# What the rows behind the first one must be, by their words.
CHECKS = {
    "line": is_line,
    "micro": is_micro,
    "timer": is_timer,
    "idle": is_idle,
    "promise": is_promise,
    "name": is_name,
    "untold": is_untold,
    "run": is_run,
    "asking": is_asking,
    "event": is_event,
}


def is_row(row, bounds):
    """Whether a row behind the first one is as it must be, for itself."""
    # Asked first, as tuples far within one another can't be looked up.
    if not isinstance(row[0], str) or row[0] not in CHECKS:
        return False
    check = CHECKS[row[0]]
    return check(row[1:], bounds)
