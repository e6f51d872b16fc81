"""The thirty deeds, each as a work does it.

A deed tells GOES_ON, STAYS where the work does no more for now, or what
fails(reason) tells.
"""

from rankloop.promises import (
    cancel, follow, gather_all, make_promise, put_taker, settle, take, take_cancel, wait_for
)
from rankloop.queues import put_timer, put_work, rerank, stop
from rankloop.scripts import is_script, parts_of
from rankloop.states import Timer, new_number, write
from rankloop.works import Work, do_ahead, give, guard

GOES_ON = ("goes on", None)
STAYS = ("stays", None)
GATHERS = ("all", "any", "first", "each")
# How many of a deed's parts, from the first on, are names that must stand for promises.
KNOWN = {
    "keep": 1, "pass": 1, "break": 1, "follow": 2, "then": 1, "if": 1, "wait": 1, "run": 1, "cancel": 1
}


def fails(reason):
    """What a deed tells that fails with this reason."""
    return ("fails", reason)


def do_deed(state, work, deed):
    """Do a deed of a work, unless it fails ahead of that."""
    if deed[0] in ("wait", "yield") and take_cancel(state, work):
        return fails("cancel")
    reason = hindrance(state, deed)
    if reason is not None:
        return fails(reason)
    action = ACTIONS[deed[0]]
    return action(state, work, deed)


def hindrance(state, deed):
    """Why nothing of a deed can be done; None where it can."""
    for kind, part in parts_of(deed):
        if kind == "rank" and part >= len(state.queues):
            return "rank"
    for name in names_of(deed):
        if name not in state.named:
            return "unknown"
    if deed[0] == "cancel" and named_promise(state, deed).story is None:
        return "unknown"
    if deed[0] == "call" and deed[1] not in state.calls:
        return "unknown"
    if deed[0] == "run" and len(state.opened) >= state.deep:
        return "deep"
    return None


def names_of(deed):
    """The names in a deed that must stand for promises."""
    if deed[0] in GATHERS:
        return deed[2]
    return deed[1:1 + KNOWN.get(deed[0], 0)]


def named_promise(state, deed):
    """The promise for which a deed's first name stands."""
    return state.promises[state.named[deed[1]]]


def put_micro(state, number, work):
    """Put a micro in which a work begins."""
    state.micros.append((number, "work", work, None))


def do_say(state, work, deed):
    write(state, "said", deed[1])
    return GOES_ON


def do_echo(state, work, deed):
    write(state, "said", work.told)
    return GOES_ON


def do_spend(state, work, deed):
    state.clock += deed[1]
    return GOES_ON


def do_post(state, work, deed):
    rank, name, script = deed[1:]
    put_work(state, rank, Work(new_number(state), name, script))
    return GOES_ON


def do_micro(state, work, deed):
    number = new_number(state)
    put_micro(state, number, Work(number, None, deed[1]))
    return GOES_ON


def do_after(state, work, deed):
    wait, rank, name, script = deed[1:]
    put_timer(state, Timer(state.clock + wait, new_number(state), None, rank, name, script))
    return GOES_ON


def do_every(state, work, deed):
    gap, rank, name, script = deed[1:]
    put_timer(state, Timer(state.clock + gap, new_number(state), gap, rank, name, script))
    return GOES_ON


def do_idle(state, work, deed):
    wait, name, script = deed[1:]
    due = None if wait is None else state.clock + wait
    last = len(state.queues) - 1
    state.idles.append(Timer(due, new_number(state), None, last, name, script))
    return GOES_ON


def do_stop(state, work, deed):
    work.told = stop(state, deed[1])
    return GOES_ON


def do_rerank(state, work, deed):
    work.told = rerank(state, deed[1], deed[2])
    return GOES_ON


def do_make(state, work, deed):
    make_promise(state, deed[1])
    return GOES_ON


def do_keep(state, work, deed):
    settle(state, state.named[deed[1]], ("kept", deed[2]))
    return GOES_ON


def do_pass(state, work, deed):
    settle(state, state.named[deed[1]], ("kept", work.told))
    return GOES_ON


def do_break(state, work, deed):
    settle(state, state.named[deed[1]], ("broken", deed[2]))
    return GOES_ON


def do_follow(state, work, deed):
    follow(state, state.named[deed[1]], state.named[deed[2]])
    return GOES_ON


def do_then(state, work, deed):
    name, made, kept, broken = deed[1:]
    # Looked up ahead of the making, which may give the name another meaning.
    source = state.named[name]
    number = new_number(state)
    pledge = make_promise(state, made)
    take(state, source)
    put_taker(state, source, (number, "then", pledge, kept, broken))
    return GOES_ON


def do_gather(state, work, deed):
    word, made, names = deed
    sources = [state.named[name] for name in names]
    number = new_number(state)
    pledge = make_promise(state, made, gather=(word, (None,) * len(sources)))
    gather_all(state, number, pledge, sources)
    return GOES_ON


def do_give(state, work, deed):
    give(work, deed[1])
    return GOES_ON


def do_fail(state, work, deed):
    return fails(deed[1])


def do_guard(state, work, deed):
    guard(work, deed[1], deed[2], deed[3])
    return GOES_ON


def do_if(state, work, deed):
    kept = named_promise(state, deed).fate[0] == "kept"
    do_ahead(work, deed[2] if kept else deed[3])
    return GOES_ON


def do_wait(state, work, deed):
    wait_for(state, state.named[deed[1]], work)
    return STAYS


def do_run(state, work, deed):
    number = state.named[deed[1]]
    write(state, "run", number)
    take(state, number)
    state.opened.append((work, number))
    return STAYS


def do_story(state, work, deed):
    number = new_number(state)
    pledge = make_promise(state, deed[1], story="whole")
    put_micro(state, number, Work(number, None, deed[2], pledge=pledge))
    return GOES_ON


def do_cancel(state, work, deed):
    cancel(state, state.named[deed[1]])
    return GOES_ON


def do_yield(state, work, deed):
    put_work(state, deed[1], work)
    return STAYS


def do_call(state, work, deed):
    script = asked(state, work, deed[1])
    if not is_script(script):
        return fails("call")
    do_ahead(work, script)
    return GOES_ON


def asked(state, work, word):
    """What a def tells of what the work was told last."""
    named_def = state.calls[word]
    # Where the def raises an error the work stays noted, to fail when the next turn is asked.
    state.asking = work
    state.busy = True
    try:
        told = named_def(work.told)
    finally:
        state.busy = False
    state.asking = None
    return told


ACTIONS = {
    "say": do_say,
    "echo": do_echo,
    "spend": do_spend,
    "post": do_post,
    "micro": do_micro,
    "after": do_after,
    "every": do_every,
    "idle": do_idle,
    "stop": do_stop,
    "rerank": do_rerank,
    "make": do_make,
    "keep": do_keep,
    "pass": do_pass,
    "break": do_break,
    "follow": do_follow,
    "then": do_then,
    "all": do_gather,
    "any": do_gather,
    "first": do_gather,
    "each": do_gather,
    "give": do_give,
    "fail": do_fail,
    "guard": do_guard,
    "if": do_if,
    "wait": do_wait,
    "run": do_run,
    "story": do_story,
    "cancel": do_cancel,
    "yield": do_yield,
    "call": do_call,
}
