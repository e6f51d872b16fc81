"""The thirty deeds, each as a work does it.

A deed tells None where the work goes on, STAYS where it does no more for now,
or the reason with which it fails; nothing of a deed that fails is done.
"""

from rankloop.promises import (
    cancel, follow, gather_all, make_promise, put_taker, settle, take, take_cancel, wait_for
)
from rankloop.queues import put_idle, put_timer, put_work, rerank, stop
from rankloop.scripts import is_script
from rankloop.states import new_number
from rankloop.works import do_ahead, fresh, give, guard, rest_of

# No word, and so no reason.
STAYS = "."


def put_micro(state, number, script, pledge):
    """Put a micro in which a script begins."""
    state.micros.append((number, "work", fresh(number, None, script, None, pledge), None))


def do_say(state, work, deed):
    state.events.append((state.clock, "said", deed[1]))


def do_echo(state, work, deed):
    state.events.append((state.clock, "said", work.told))


def do_spend(state, work, deed):
    state.clock += deed[1]


def do_post(state, work, deed):
    word, rank, name, script = deed
    if rank >= len(state.queues):
        return "rank"
    put_work(state, rank, fresh(new_number(state), name, script, None, None))
    return None


def do_micro(state, work, deed):
    put_micro(state, new_number(state), deed[1], None)


def do_after(state, work, deed):
    word, wait, rank, name, script = deed
    if rank >= len(state.queues):
        return "rank"
    put_timer(state, (state.clock + wait, new_number(state), None, rank, name, script))
    return None


def do_every(state, work, deed):
    word, gap, rank, name, script = deed
    if rank >= len(state.queues):
        return "rank"
    put_timer(state, (state.clock + gap, new_number(state), gap, rank, name, script))
    return None


def do_idle(state, work, deed):
    word, wait, name, script = deed
    due = None if wait is None else state.clock + wait
    put_idle(state, (due, new_number(state), name, script))


def do_stop(state, work, deed):
    work.told = stop(state, deed[1])


def do_rerank(state, work, deed):
    word, name, rank = deed
    if rank >= len(state.queues):
        return "rank"
    work.told = rerank(state, name, rank)
    return None


def do_make(state, work, deed):
    make_promise(state, deed[1])


def do_keep(state, work, deed):
    word, name, worth = deed
    if name not in state.named:
        return "unknown"
    settle(state, state.named[name], ("kept", worth))
    return None


def do_pass(state, work, deed):
    name = deed[1]
    if name not in state.named:
        return "unknown"
    settle(state, state.named[name], ("kept", work.told))
    return None


def do_break(state, work, deed):
    word, name, reason = deed
    if name not in state.named:
        return "unknown"
    settle(state, state.named[name], ("broken", reason))
    return None


def do_follow(state, work, deed):
    word, name, other = deed
    if name not in state.named or other not in state.named:
        return "unknown"
    follow(state, state.named[name], state.named[other])
    return None


def do_then(state, work, deed):
    word, name, made, kept, broken = deed
    if name not in state.named:
        return "unknown"
    # Looked up ahead of the making, which may give the name another meaning.
    source = state.named[name]
    number = new_number(state)
    pledge = make_promise(state, made)
    take(state, source)
    put_taker(state, source, (number, "then", pledge, kept, broken))
    return None


def do_gather(state, work, deed):
    word, made, names = deed
    sources = [state.named.get(name) for name in names]
    if None in sources:
        return "unknown"
    number = new_number(state)
    gather_all(state, number, word, make_promise(state, made), sources)
    return None


def do_give(state, work, deed):
    give(work, deed[1])


def do_fail(state, work, deed):
    return deed[1]


def do_guard(state, work, deed):
    word, script, second, last = deed
    guard(work, script, second, last)


def do_if(state, work, deed):
    word, name, script, other = deed
    if name not in state.named:
        return "unknown"
    fate = state.fates[state.named[name]]
    do_ahead(work, script if fate[0] == "kept" else other)
    return None


def do_wait(state, work, deed):
    if take_cancel(state, work.pledge):
        return "cancel"
    name = deed[1]
    if name not in state.named:
        return "unknown"
    wait_for(state, state.named[name], rest_of(work))
    return STAYS


def do_run(state, work, deed):
    name = deed[1]
    if name not in state.named:
        return "unknown"
    if len(state.opened) >= state.deep:
        return "deep"
    number = state.named[name]
    state.events.append((state.clock, "run", number))
    take(state, number)
    state.opened.append((rest_of(work), number))
    return STAYS


def do_story(state, work, deed):
    word, made, script = deed
    number = new_number(state)
    pledge = make_promise(state, made)
    state.stories[pledge] = "whole"
    put_micro(state, number, script, pledge)


def do_cancel(state, work, deed):
    number = state.named.get(deed[1])
    if number not in state.stories:
        return "unknown"
    cancel(state, number)
    return None


def do_yield(state, work, deed):
    if take_cancel(state, work.pledge):
        return "cancel"
    rank = deed[1]
    if rank >= len(state.queues):
        return "rank"
    put_work(state, rank, rest_of(work))
    return STAYS


def do_call(state, work, deed):
    word = deed[1]
    if word not in state.calls:
        return "unknown"
    script = asked(state, work, word)
    if not is_script(script):
        return "call"
    do_ahead(work, script)
    return None


def asked(state, work, word):
    """What a def tells of what the work was told last."""
    named_def = state.calls[word]
    # Where the def raises an error the work stays noted, to fail when the next turn is asked.
    state.asking = rest_of(work)
    state.busy = True
    try:
        told = named_def(work.told)
    finally:
        state.busy = False
    state.asking = None
    return told


ACTIONS = {
    "say": do_say,
    "echo": do_echo,
    "spend": do_spend,
    "post": do_post,
    "micro": do_micro,
    "after": do_after,
    "every": do_every,
    "idle": do_idle,
    "stop": do_stop,
    "rerank": do_rerank,
    "make": do_make,
    "keep": do_keep,
    "pass": do_pass,
    "break": do_break,
    "follow": do_follow,
    "then": do_then,
    "all": do_gather,
    "any": do_gather,
    "first": do_gather,
    "each": do_gather,
    "give": do_give,
    "fail": do_fail,
    "guard": do_guard,
    "if": do_if,
    "wait": do_wait,
    "run": do_run,
    "story": do_story,
    "cancel": do_cancel,
    "yield": do_yield,
    "call": do_call,
}


def do_deeds(state, doing):
    """Do deeds until the script under way is done, or one of them doesn't go on; what this one tells, or None."""
    while doing.at < len(doing.script):
        deed = doing.script[doing.at]
        doing.at += 1
        action = ACTIONS[deed[0]]
        told = action(state, doing, deed)
        if told is not None:
            return told
    return None
