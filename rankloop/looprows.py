"""All that stands in a loop as rows, of which its text is made.

A row is a word and its parts, parted by blanks; tuples are written as Python
writes them, events as in a journal's text. Of what is empty there is no row, but
of each line. Texts of things that are never changed are noted in them when they
are first asked.
"""

from rankloop.scripttexts import show_event
from rankloop.states import passes_of
from rankloop.works import Work


def text_of(state):
    """The text of a loop; the defs are left aside."""
    return standing_text(state) + event_rows(state)


def event_rows(state):
    """The rows of the journal, a line end ahead of each."""
    many, text = state.shown
    if many < len(state.events):
        text += "".join([f"\nevent {show_event(event)}" for event in state.events[many:]])
        state.shown = (len(state.events), text)
    return text


def standing_text(state):
    """The rows of all that stands in a loop but its journal."""
    # Most texts were asked before, and no def is called for these.
    rows = [f"{state.setup.text or setup_text(state.setup)} {state.clock} {state.numbers}"]
    picks = state.picks
    for line, since in zip(state.queues, state.since):
        if not line:
            rows.append("line")
        elif len(line) == 1:
            rows.append(f"line {picks - since} {line[0].text or work_text(line[0])}")
        else:
            works = " ".join([work.text or work_text(work) for work in line])
            rows.append(f"line {picks - since} {works}")
    if state.micros:
        rows.extend([f"micro {show_mixed(micro)}" for micro in state.micros])
    for due, number, plan in state.timers:
        rows.append(f"timer {due} {plan.text or plan_text(plan)}")
    if state.idles:
        rows.extend([f"idle {due} {plan_text(plan)}" for due, number, plan in state.idles])
    if state.book.fates:
        rows.append(state.book.text or book_text(state.book))
    if state.opened:
        rows.extend([f"run {show_mixed(run)}" for run in state.opened])
    if state.asking is not None:
        rows.append(f"asking {work_text(state.asking)} {state.done} {truth(state.flooded)}")
    return "\n".join(rows)


def setup_text(setup):
    """The text of what a loop was made with, but for its defs."""
    setup.text = f"loop {setup.patience} {setup.flood} {setup.deep}"
    return setup.text


def are_alike(state, other):
    """Whether two states have the same rows."""
    if state.clock != other.clock or state.numbers != other.numbers or state.events != other.events:
        return False
    # Copies that didn't go different ways have the very same works, so that no text needs to be made.
    return things_in(state) == things_in(other) or standing_text(state) == standing_text(other)


def things_in(state):
    """All that stands in a loop but clock, numbers and journal."""
    works = [state.queues, state.micros, state.timers, state.idles, state.opened, state.asking]
    return [state.setup, state.book, passes_of(state), works, state.done, state.flooded]


def truth(told):
    """A truth as a number: worths have no truths."""
    return 1 if told else 0


def work_text(work):
    """The text of a work."""
    if work.text is None:
        parts = (work.number, work.name, work.script, work.told, work.pledge)
        if work.around is not None:
            parts = (*parts, *work.around)
        work.text = f"{parts}"
    return work.text


def plan_text(plan):
    """The text of what a timer or an idle work puts into a line."""
    if plan.text is None:
        plan.text = f"{plan.number} {plan.gap} {plan.rank} {plan.name} {plan.script}"
    return plan.text


def show_mixed(parts):
    """The text of a tuple that may have a work in it."""
    return " ".join([work_text(part) if isinstance(part, Work) else f"{part}" for part in parts])


def book_text(book):
    """The rows of promises, their names, and those that are to be told as unhandled."""
    rows = [promise_row(book, number) for number in range(len(book.fates))]
    # Sorted: in which order the names came makes no loop unlike another one.
    rows.extend([f"name {name} {book.named[name]}" for name in sorted(book.named)])
    if book.untold:
        rows.append(f"untold {show_mixed(tuple(book.untold))}")
    book.text = "\n".join(rows)
    return book.text


def promise_row(book, number):
    """The row of a promise."""
    taken = truth(number in book.taken)
    row = f"promise {book.fates[number]} {taken} {book.gathers.get(number)} {book.stories.get(number)}"
    if number not in book.takers:
        return row
    return " ".join([row, *[f"({show_mixed(taker)})" for taker in book.takers[number]]])
