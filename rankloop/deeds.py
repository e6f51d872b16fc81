"""The thirty deeds, each as a work does it.

A deed tells None where the work goes on, MOVES where it goes on elsewhere,
STAYS where it does no more for now, or the reason with which it fails; nothing
of a deed that fails is done. Most need no more of the work than what it was
told; only the others are handed the work itself.
"""

from rankloop.promises import (
    cancel, follow, gather_all, make_promise, put_taker, settle, take, take_cancel, wait_for
)
from rankloop.queues import Plan, put_idle, put_timer, put_work, rerank, stop
from rankloop.scripts import is_script
from rankloop.states import new_number, own_book
from rankloop.works import Work, do_ahead, give, guard, rest_of

# No words, and so no reasons.
STAYS = "."
MOVES = ">"


def put_micro(state, number, script, pledge):
    """Put a micro in which a script begins."""
    state.micros.append((number, "work", Work(number, None, script, None, pledge, None), None))


def do_say(state, told, deed):
    state.events.append((state.clock, "said", deed[1]))


def do_echo(state, told, deed):
    state.events.append((state.clock, "said", told))


def do_spend(state, told, deed):
    state.clock += deed[1]


def do_post(state, told, deed):
    word, rank, name, script = deed
    if rank >= len(state.queues):
        return "rank"
    put_work(state, rank, Work(new_number(state), name, script, None, None, None))
    return None


def do_micro(state, told, deed):
    put_micro(state, new_number(state), deed[1], None)


def do_after(state, told, deed):
    word, wait, rank, name, script = deed
    if rank >= len(state.queues):
        return "rank"
    number = new_number(state)
    put_timer(state.timers, (state.clock + wait, number, Plan(None, rank, number, name, script)))
    return None


def do_every(state, told, deed):
    word, gap, rank, name, script = deed
    if rank >= len(state.queues):
        return "rank"
    number = new_number(state)
    put_timer(state.timers, (state.clock + gap, number, Plan(gap, rank, number, name, script)))
    return None


def do_idle(state, told, deed):
    word, wait, name, script = deed
    due = None if wait is None else state.clock + wait
    number = new_number(state)
    put_idle(state, (due, number, Plan(None, len(state.queues) - 1, number, name, script)))


def do_stop(state, doing, deed):
    doing.told = stop(state, deed[1])


def do_rerank(state, doing, deed):
    word, name, rank = deed
    if rank >= len(state.queues):
        return "rank"
    doing.told = rerank(state, name, rank)
    return None


def do_make(state, told, deed):
    make_promise(own_book(state), deed[1])


def do_keep(state, told, deed):
    word, name, worth = deed
    named = state.book.named
    if name not in named:
        return "unknown"
    settle(state, named[name], ("kept", worth))
    return None


def do_pass(state, told, deed):
    name = deed[1]
    named = state.book.named
    if name not in named:
        return "unknown"
    settle(state, named[name], ("kept", told))
    return None


def do_break(state, told, deed):
    word, name, reason = deed
    named = state.book.named
    if name not in named:
        return "unknown"
    settle(state, named[name], ("broken", reason))
    return None


def do_follow(state, told, deed):
    word, name, other = deed
    named = state.book.named
    if name not in named or other not in named:
        return "unknown"
    follow(state, named[name], named[other])
    return None


def do_then(state, told, deed):
    word, name, made, kept, broken = deed
    if name not in state.book.named:
        return "unknown"
    book = own_book(state)
    # Looked up ahead of the making, which may give the name another meaning.
    source = book.named[name]
    number = new_number(state)
    pledge = make_promise(book, made)
    take(state, book, source)
    put_taker(state, book, source, (number, "then", pledge, kept, broken))
    return None


def do_gather(state, told, deed):
    word, made, names = deed
    named = state.book.named
    sources = [named.get(name) for name in names]
    if None in sources:
        return "unknown"
    book = own_book(state)
    number = new_number(state)
    gather_all(state, book, number, word, make_promise(book, made), sources)
    return None


def do_give(state, doing, deed):
    give(doing, deed[1])
    return MOVES


def do_fail(state, told, deed):
    return deed[1]


def do_guard(state, doing, deed):
    word, script, second, last = deed
    guard(doing, script, second, last)
    return MOVES


def do_if(state, doing, deed):
    word, name, script, other = deed
    book = state.book
    if name not in book.named:
        return "unknown"
    fate = book.fates[book.named[name]]
    do_ahead(doing, script if fate[0] == "kept" else other)
    return MOVES


def do_wait(state, doing, deed):
    if take_cancel(state, doing.work.pledge):
        return "cancel"
    name = deed[1]
    named = state.book.named
    if name not in named:
        return "unknown"
    wait_for(state, named[name], rest_of(doing))
    return STAYS


def do_run(state, doing, deed):
    name = deed[1]
    named = state.book.named
    if name not in named:
        return "unknown"
    if len(state.opened) >= state.setup.deep:
        return "deep"
    number = named[name]
    state.events.append((state.clock, "run", number))
    take(state, own_book(state), number)
    state.opened.append((rest_of(doing), number))
    return STAYS


def do_story(state, told, deed):
    word, made, script = deed
    number = new_number(state)
    book = own_book(state)
    pledge = make_promise(book, made)
    book.stories[pledge] = "whole"
    put_micro(state, number, script, pledge)


def do_cancel(state, told, deed):
    number = state.book.named.get(deed[1])
    if number not in state.book.stories:
        return "unknown"
    cancel(state, number)
    return None


def do_yield(state, doing, deed):
    if take_cancel(state, doing.work.pledge):
        return "cancel"
    rank = deed[1]
    if rank >= len(state.queues):
        return "rank"
    put_work(state, rank, rest_of(doing))
    return STAYS


def do_call(state, doing, deed):
    word = deed[1]
    if word not in state.setup.calls:
        return "unknown"
    script = asked(state, doing, word)
    if not is_script(script):
        return "call"
    do_ahead(doing, script)
    return MOVES


def asked(state, doing, word):
    """What a def tells of what the work was told last."""
    named_def = state.setup.calls[word]
    # Where the def raises an error the work stays noted, to fail when the next turn is asked.
    state.asking = rest_of(doing)
    state.busy = True
    try:
        told = named_def(doing.told)
    finally:
        state.busy = False
    state.asking = None
    return told


# Those that need nothing of the work that does them but what it was told.
PLAIN = {
    "say": do_say,
    "echo": do_echo,
    "spend": do_spend,
    "post": do_post,
    "micro": do_micro,
    "after": do_after,
    "every": do_every,
    "idle": do_idle,
    "make": do_make,
    "keep": do_keep,
    "pass": do_pass,
    "break": do_break,
    "follow": do_follow,
    "then": do_then,
    "all": do_gather,
    "any": do_gather,
    "first": do_gather,
    "each": do_gather,
    "fail": do_fail,
    "story": do_story,
    "cancel": do_cancel,
}
OTHERS = {
    "stop": do_stop,
    "rerank": do_rerank,
    "give": do_give,
    "guard": do_guard,
    "if": do_if,
    "wait": do_wait,
    "run": do_run,
    "yield": do_yield,
    "call": do_call,
}


def do_deeds(state, doing):
    """Do deeds until the script under way is done, or one of them doesn't go on; what this one tells, or None."""
    script = doing.script
    at = doing.at
    while at < len(script):
        deed = script[at]
        at += 1
        plain = PLAIN.get(deed[0])
        if plain is not None:
            outcome = plain(state, doing.told, deed)
        else:
            doing.at = at
            action = OTHERS[deed[0]]
            outcome = action(state, doing, deed)
            if outcome == MOVES:
                outcome = None
                script = doing.script
                at = doing.at
        if outcome is not None:
            return outcome
    doing.at = at
    return None
