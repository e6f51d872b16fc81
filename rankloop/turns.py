"""Turns: what is begun, and what comes behind it until nothing more can be done for now."""

from rankloop.deeds import STAYS, do_deed
from rankloop.lines import chosen, is_overdue
from rankloop.promises import gather_fate, settle, take_cancel, tell_unhandled
from rankloop.queues import put_due, take_first
from rankloop.states import is_settled, write
from rankloop.works import Work, brought_to_guard, has_deed, leave_part, next_deed, taken_up


def take_turn(state):
    """Do what stands ahead of a turn, and a turn; whether there was any of these."""
    finished = finish_broken_off(state)
    begun = begin_turn(state)
    if begun:
        settle_down(state)
    return finished or begun


def finish_broken_off(state):
    """Do the rest of a turn that an error broke off; whether there was one."""
    if state.asking is None:
        return False
    work = taken_up(state.asking)
    state.asking = None
    go_on(state, work, "out")
    settle_down(state)
    return True


def begin_turn(state):
    """Begin what is next, or tell a run as stuck; whether there was something."""
    put_due(state)
    if len(state.idles) == 0 and chosen(state.passed, state.patience) is None:
        leap(state)
    rank = chosen(state.passed, state.patience)
    if rank is not None:
        begin_task(state, rank)
    elif state.idles:
        begin_idle(state)
    elif state.opened and not state.micros:
        tell_stuck(state)
    else:
        # Micros that a flood left are done as if a work had been begun.
        return len(state.micros) > 0
    return True


def leap(state):
    """Go on to the next timer's due, where there is one."""
    if state.timers:
        ahead = state.clock
        state.clock = state.timers[0].due
        write(state, "leap", ahead)
        put_due(state)


def begin_task(state, rank):
    """Begin the first work of the chosen rank."""
    why = "overdue" if is_overdue(state.passed[rank], state.patience[rank]) else "least"
    work = take_first(state, rank)
    write(state, "task", work.number, rank, why)
    begin(state, work, None)


def begin_idle(state):
    """Begin the first idle work, told how long until the next timer's due."""
    idle = state.idles.pop(0)
    left = state.timers[0].due - state.clock if state.timers else None
    write(state, "idle", idle.number, left)
    begin(state, Work(idle.number, idle.name, idle.script, told=left), None)


def tell_stuck(state):
    """Tell that the innermost run has nothing to come, which its work fails with."""
    work, number = state.opened.pop()
    write(state, "stuck", number)
    go_on(state, taken_up(work), "stuck")


def settle_down(state):
    """Do micros, and end runs from the innermost outward, until there is no more of either."""
    ending = True
    while ending:
        do_micros(state)
        if not state.micros:
            tell_unhandled(state)
        ending = end_run(state)
    state.done = 0
    state.flooded = False


def do_micros(state):
    """Do micros until none is left, or as many as the flood are done."""
    while state.micros and state.done < state.flood:
        micro = state.micros.pop(0)
        number, kind, *parts = micro
        state.done += 1
        write(state, "micro", number)
        action = MICROS[kind]
        action(state, *parts)
    if state.micros and not state.flooded:
        write(state, "flood", len(state.micros))
        state.flooded = True


def end_run(state):
    """End the innermost run if its promise is settled; whether it was."""
    if not state.opened or not is_settled(state, state.opened[-1][1]):
        return False
    work, number = state.opened.pop()
    write(state, "ran", number)
    go_on_by(state, taken_up(work), state.promises[number].fate)
    return True


def begin(state, work, fate):
    """Begin a work or its rest, which may be due to fail with cancel there."""
    doing = taken_up(work)
    if not take_cancel(state, doing):
        go_on_by(state, doing, fate)
        return
    if fate is not None and fate[0] == "kept":
        doing.told = fate[1]
    go_on(state, doing, "cancel")


def go_on_by(state, work, fate):
    """Go on with a work as the promise that it waited or ran for was settled; None of no such promise."""
    if fate is None:
        go_on(state, work, None)
    elif fate[0] == "kept":
        work.told = fate[1]
        go_on(state, work, None)
    else:
        go_on(state, work, fate[1])


def go_on(state, work, reason):
    """Do a work until it stays or ends; first of all it fails, where there is a reason."""
    while reason is None or brought_to_guard(work, reason):
        if not work.frames:
            break
        if has_deed(work):
            outcome = do_deed(state, work, next_deed(work))
            if outcome == STAYS:
                return
            reason = outcome[1]
        else:
            reason = leave_part(work)
    end(state, work, reason)


def end(state, work, reason):
    """End a work, with a reason where it failed."""
    if work.pledge is None:
        if reason is not None:
            write(state, "fault", work.number, reason)
        return
    promise = state.promises[work.pledge]
    if promise.story is not None:
        promise.story = "spent"
    settle(state, work.pledge, ("kept", work.gave) if reason is None else ("broken", reason))


def settle_alike(state, pledge, fate):
    """Do the micro of a then that has no script for this fate."""
    settle(state, pledge, fate)


def add_fate(state, pledge, place, fate):
    """Do a micro of all, any, first or each."""
    gather_fate(state, pledge, place, fate)


MICROS = {
    "work": begin,
    "settle": settle_alike,
    "gather": add_fate,
}
