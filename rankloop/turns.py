"""Turns: what is begun, and what comes behind it until nothing more can be done for now."""

from rankloop.deeds import PLAIN, STAYS, do_deeds
from rankloop.promises import gather_fate, settle, spend_story, take_cancel, tell_unhandled
from rankloop.queues import planned_work, put_due, take_idle
from rankloop.states import is_settled
from rankloop.works import Doing, brought_to_guard, leave_frame


def take_turn(state):
    """Do what stands ahead of a turn, and a turn; whether there was any of these."""
    finished = state.asking is not None
    if finished:
        finish_broken_off(state)
    timers = state.timers
    if timers and timers[0][0] <= state.clock or state.soonest is not None:
        put_due(state)
    if any(state.queues):
        begin_task(state)
    elif state.idles:
        begin_idle(state)
    elif state.timers:
        leap(state)
        begin_task(state)
    elif not begin_without_works(state):
        return finished
    # Most turns leave nothing behind the work, and are to be quick.
    if state.micros or state.opened or state.book.untold:
        settle_down(state)
    return True


def finish_broken_off(state):
    """Do the rest of a turn that an error broke off."""
    work = state.asking
    state.asking = None
    go_on(state, Doing(work), "out")
    settle_down(state)


def begin_without_works(state):
    """Tell a run as stuck, where nothing is left to be begun; whether there was one, or micros that a flood left."""
    if state.opened and not state.micros:
        tell_stuck(state)
        return True
    # Such micros are done as if a work had been begun.
    return len(state.micros) > 0


def leap(state):
    """Go on to the next timer's due."""
    due = state.timers[0][0]
    state.events.append((due, "leap", state.clock))
    state.clock = due
    put_due(state)


def begin_task(state):
    """Begin the first work of the chosen rank."""
    rank = overdue_rank(state) if state.setup.patient else None
    why = "overdue"
    if rank is None:
        rank = 0
        why = "least"
        while not state.queues[rank]:
            rank += 1
    work = state.queues[rank].pop(0)
    # Those of all other ranks are passed over by that, see passes_of.
    picks = state.picks + 1
    state.picks = picks
    state.since[rank] = picks
    state.events.append((state.clock, "task", work.number, rank, why))
    if work.around is not None:
        begin(state, work, None)
    elif work.script:
        begin_fresh(state, work)


def overdue_rank(state):
    """The rank that is chosen of the overdue ones; None where none is."""
    best = None
    most = -1
    for rank, bears in state.setup.patient:
        # From 0 on, so overdue, and more than that of the ranks ahead.
        if state.queues[rank] and state.picks - state.since[rank] - bears > most:
            best = rank
            most = state.picks - state.since[rank] - bears
    return best


def begin_idle(state):
    """Begin the first idle work, told how long until the next timer's due."""
    due, number, plan = take_idle(state)
    left = state.timers[0][0] - state.clock if state.timers else None
    state.events.append((state.clock, "idle", number, left))
    begin(state, planned_work(plan, left), None)


def tell_stuck(state):
    """Tell that the innermost run has nothing to come, which its work fails with."""
    work, number = state.opened.pop()
    state.events.append((state.clock, "stuck", number))
    go_on(state, Doing(work), "stuck")


def settle_down(state):
    """Do micros, and end runs from the innermost outward, until there is no more of either."""
    ending = True
    while ending:
        if state.micros:
            do_micros(state)
        if state.book.untold and not state.micros:
            tell_unhandled(state)
        ending = len(state.opened) > 0 and end_run(state)
    state.done = 0
    state.flooded = False


def do_micros(state):
    """Do micros until none is left, or as many as the flood are done."""
    micros = state.micros
    flood = state.setup.flood
    while micros and state.done < flood:
        micro = micros.pop(0)
        state.done += 1
        state.events.append((state.clock, "micro", micro[0]))
        kind = micro[1]
        if kind == "work":
            begin(state, micro[2], micro[3])
        elif kind == "settle":
            settle(state, micro[2], micro[3])
        else:
            gather_fate(state, micro[2], micro[3], micro[4])
    if micros and not state.flooded:
        state.events.append((state.clock, "flood", len(micros)))
        state.flooded = True


def end_run(state):
    """End the innermost run if its promise is settled; whether it was."""
    work, number = state.opened[-1]
    if not is_settled(state, number):
        return False
    state.opened.pop()
    state.events.append((state.clock, "ran", number))
    go_on_by(state, Doing(work), state.book.fates[number])
    return True


def begin(state, work, fate):
    """Begin a work or its rest, which may be due to fail with cancel there."""
    pledge = work.pledge
    if pledge is not None and state.book.stories and take_cancel(state, pledge):
        doing = Doing(work)
        if fate is not None and fate[0] == "kept":
            doing.told = fate[1]
        go_on(state, doing, "cancel")
    elif fate is not None:
        go_on_by(state, Doing(work), fate)
    elif work.around is not None:
        go_on(state, Doing(work), None)
    elif work.script:
        begin_fresh(state, work)
    elif pledge is not None:
        # Works without deeds may be many, and end at once.
        end(state, work, None, None)


def begin_fresh(state, work):
    """Begin a work that hasn't begun; most are done by that, as all of their deeds are plain."""
    at = 0
    for deed in work.script:
        action = PLAIN.get(deed[0])
        if action is None:
            doing = Doing(work)
            doing.at = at
            go_on(state, doing, None)
            return
        reason = action(state, work.told, deed)
        if reason is not None:
            end(state, work, None, reason)
            return
        at += 1
    if work.pledge is not None:
        end(state, work, None, None)


def go_on_by(state, doing, fate):
    """Go on with a work as the promise that it waited or ran for was settled."""
    word, worth = fate
    if word == "kept":
        doing.told = worth
        go_on(state, doing, None)
    else:
        go_on(state, doing, worth)


def go_on(state, doing, reason):
    """Do a work until it stays or ends; first of all it fails, where there is a reason."""
    while reason is None or brought_to_guard(doing, reason):
        reason = do_deeds(state, doing)
        if reason == STAYS:
            return
        if reason is None:
            if not doing.frames:
                break
            reason = leave_frame(doing)
    if reason is not None or doing.work.pledge is not None:
        end(state, doing.work, doing.gave, reason)


def end(state, work, gave, reason):
    """End a work, with a reason where it failed."""
    pledge = work.pledge
    if pledge is None:
        if reason is not None:
            state.events.append((state.clock, "fault", work.number, reason))
        return
    if pledge in state.book.stories:
        spend_story(state, pledge)
    settle(state, pledge, ("kept", gave) if reason is None else ("broken", reason))
