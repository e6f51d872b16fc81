"""Turns: what is begun, and what comes behind it until nothing more can be done for now."""

from rankloop.deeds import STAYS, do_deeds
from rankloop.lines import chosen
from rankloop.promises import gather_fate, settle, take_cancel, tell_unhandled
from rankloop.queues import put_due, take_first, take_idle
from rankloop.states import is_settled, write
from rankloop.works import Doing, brought_to_guard, fresh, leave_frame


def take_turn(state):
    """Do what stands ahead of a turn, and a turn; whether there was any of these."""
    finished = state.asking is not None
    if finished:
        finish_broken_off(state)
    begun = begin_turn(state)
    # Most turns leave nothing behind the work, and are to be quick.
    if begun and (state.micros or state.untold or state.opened):
        settle_down(state)
    return finished or begun


def finish_broken_off(state):
    """Do the rest of a turn that an error broke off."""
    work = Doing(state.asking)
    state.asking = None
    go_on(state, work, "out")
    settle_down(state)


def begin_turn(state):
    """Begin what is next, or tell a run as stuck; whether there was something."""
    if state.timers or state.idles:
        put_due(state)
    rank = chosen(state.passed, state.patience)
    if rank is None and state.timers and not state.idles:
        leap(state)
        rank = chosen(state.passed, state.patience)
    if rank is not None:
        begin_task(state, rank)
    elif state.idles:
        begin_idle(state)
    elif state.opened and not state.micros:
        tell_stuck(state)
    else:
        # Micros that a flood left are done as if a work had been begun.
        return len(state.micros) > 0
    return True


def leap(state):
    """Go on to the next timer's due."""
    ahead = state.clock
    state.clock = state.timers[0][0]
    write(state, "leap", ahead)
    put_due(state)


def begin_task(state, rank):
    """Begin the first work of the chosen rank."""
    bears = state.patience[rank]
    why = "least" if bears is None or state.passed[rank] < bears else "overdue"
    work = take_first(state, rank)
    state.events.append((state.clock, "task", work[0], rank, why))
    begin(state, work, None)


def begin_idle(state):
    """Begin the first idle work, told how long until the next timer's due."""
    due, number, name, script = take_idle(state)
    left = state.timers[0][0] - state.clock if state.timers else None
    write(state, "idle", number, left)
    begin(state, fresh(number, name, script, left, None), None)


def tell_stuck(state):
    """Tell that the innermost run has nothing to come, which its work fails with."""
    work, number = state.opened.pop()
    write(state, "stuck", number)
    go_on(state, Doing(work), "stuck")


def settle_down(state):
    """Do micros, and end runs from the innermost outward, until there is no more of either."""
    ending = True
    while ending:
        if state.micros:
            do_micros(state)
        if state.untold and not state.micros:
            tell_unhandled(state)
        ending = len(state.opened) > 0 and end_run(state)
    state.done = 0
    state.flooded = False


def do_micros(state):
    """Do micros until none is left, or as many as the flood are done."""
    micros = state.micros
    while micros and state.done < state.flood:
        micro = micros.pop(0)
        state.done += 1
        state.events.append((state.clock, "micro", micro[0]))
        kind = micro[1]
        if kind == "work":
            begin(state, micro[2], micro[3])
        elif kind == "settle":
            settle(state, micro[2], micro[3])
        else:
            gather_fate(state, micro[2], micro[3], micro[4])
    if micros and not state.flooded:
        write(state, "flood", len(micros))
        state.flooded = True


def end_run(state):
    """End the innermost run if its promise is settled; whether it was."""
    work, number = state.opened[-1]
    if not is_settled(state, number):
        return False
    state.opened.pop()
    write(state, "ran", number)
    go_on_by(state, Doing(work), state.fates[number])
    return True


def begin(state, work, fate):
    """Begin a work or its rest, which may be due to fail with cancel there."""
    pledge = work[5]
    if pledge in state.stories and take_cancel(state, pledge):
        doing = Doing(work)
        if fate is not None and fate[0] == "kept":
            doing.told = fate[1]
        go_on(state, doing, "cancel")
    elif fate is None and not work[2]:
        # Works of which nothing is to be done may be many, and end at once.
        end(state, work[0], pledge, work[4], None)
    else:
        go_on_by(state, Doing(work), fate)


def go_on_by(state, doing, fate):
    """Go on with a work as the promise that it waited or ran for was settled; None of no such promise."""
    if fate is None:
        go_on(state, doing, None)
    elif fate[0] == "kept":
        doing.told = fate[1]
        go_on(state, doing, None)
    else:
        go_on(state, doing, fate[1])


def go_on(state, doing, reason):
    """Do a work until it stays or ends; first of all it fails, where there is a reason."""
    while reason is None or brought_to_guard(doing, reason):
        reason = do_deeds(state, doing)
        if reason == STAYS:
            return
        if reason is None:
            if not doing.frames:
                break
            reason = leave_frame(doing)
    end(state, doing.number, doing.pledge, doing.gave, reason)


def end(state, number, pledge, gave, reason):
    """End a work, with a reason where it failed."""
    if pledge is None:
        if reason is not None:
            write(state, "fault", number, reason)
        return
    if pledge in state.stories:
        state.stories[pledge] = "spent"
    settle(state, pledge, ("kept", gave) if reason is None else ("broken", reason))
