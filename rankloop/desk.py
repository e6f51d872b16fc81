"""A desk: it keeps loops by names, and is told rows."""

from rankloop.deskrows import read_desk_row
from rankloop.errors import Busy, NoLoop, NoMark, NoPromise, NoRank, NoRow, Undone
from rankloop.loops import Loop
from rankloop.scripttexts import show_event, show_worth


class Desk:
    """A desk; of each loop it keeps a tuple (loop, told, mark).

    Told is how many events of its journal were told, mark None or a tuple of a
    copy and what was told then. The tuples are never changed, and amid several
    rows no loop that stood there ahead is: so these can be undone.
    """

    def __init__(self, *, calls=None):
        self.calls = {} if calls is None else dict(calls)
        self.shelf = {}
        # How many times several rows are under way: a def that is asked amid them may tell more.
        self.amid = 0

    def answer(self, row):
        """Do what a row says; what is told then."""
        word, *parts = read_desk_row(row)
        action = ANSWERS[word]
        return action(self, *parts)

    def several(self, rows):
        """Do rows one behind the other, or none of them; the list of answers."""
        held = self.shelf
        self.shelf = dict(held)
        self.amid += 1
        try:
            answers = answers_of(self, list(rows))
            held = self.shelf
        finally:
            self.amid -= 1
            self.shelf = held
        return answers


def answers_of(desk, rows):
    """The answers of rows; Undone with the first one that is refused."""
    answers = []
    for at, row in enumerate(rows):
        try:
            answers.append(desk.answer(row))
        except (NoRow, NoLoop, NoRank, NoPromise, NoMark, Busy) as why:
            raise Undone(at, why) from why
    return answers


def kept_of(desk, name):
    """What is kept of a loop; NoLoop where there is none by this name."""
    if name not in desk.shelf:
        raise NoLoop(name)
    return desk.shelf[name]


def loop_of(desk, name):
    """The loop by this name."""
    return kept_of(desk, name)[0]


def changing_loop(desk, name):
    """The loop by this name, to be changed; amid several rows a copy, as these may be undone."""
    loop, told, mark = kept_of(desk, name)
    if desk.amid > 0:
        loop = loop.copy()
        desk.shelf[name] = (loop, told, mark)
    return loop


def put_loop(desk, name, loop):
    """Keep a loop without a mark, of which nothing was told."""
    desk.shelf[name] = (loop, 0, None)
    return "ok"


def make_loop(desk, name, ranks, patience):
    return put_loop(desk, name, Loop(ranks=ranks, patience=patience, calls=desk.calls))


def post_work(desk, name, rank, work, script):
    number = changing_loop(desk, name).post(script, rank=rank, name=work)
    return f"{number}"


def do_turns(desk, name, many):
    done = changing_loop(desk, name).turns(many)
    return f"{done}"


def tell_journal(desk, name):
    return tell_events(desk, name, 0)


def tell_new(desk, name):
    return tell_events(desk, name, kept_of(desk, name)[1])


def tell_events(desk, name, start):
    """The text of a journal from an event on, all of which is told then."""
    loop, told, mark = kept_of(desk, name)
    events = loop.journal()
    desk.shelf[name] = (loop, len(events), mark)
    return "; ".join([show_event(event) for event in events[start:]]) if events[start:] else "-"


def tell_promise(desk, name, promise):
    fate = loop_of(desk, name).promise(promise)
    if fate[0] in ("open", "follows"):
        return fate[0]
    return f"{fate[0]} {show_worth(fate[1])}"


def tell_lines(desk, name):
    return "; ".join([show_line(names) for names in loop_of(desk, name).lines()])


def show_line(names):
    """The text of the names of works in a line."""
    return " ".join(["." if name is None else name for name in names]) if names else "-"


def copy_loop(desk, name, other):
    return put_loop(desk, other, loop_of(desk, name).copy())


def mark_loop(desk, name):
    loop, told, mark = kept_of(desk, name)
    desk.shelf[name] = (loop, told, (loop.copy(), told))
    return "ok"


def go_back(desk, name):
    loop, told, mark = kept_of(desk, name)
    if mark is None:
        raise NoMark(name)
    marked, told = mark
    # A copy, as the mark stays.
    desk.shelf[name] = (marked.copy(), told, mark)
    return "ok"


def drop_loop(desk, name):
    kept_of(desk, name)
    desk.shelf.pop(name)
    return "ok"


def tell_names(desk):
    return " ".join(sorted(desk.shelf)) if desk.shelf else "-"


ANSWERS = {
    "loop": make_loop,
    "post": post_work,
    "turns": do_turns,
    "journal": tell_journal,
    "new": tell_new,
    "promise": tell_promise,
    "lines": tell_lines,
    "copy": copy_loop,
    "mark": mark_loop,
    "back": go_back,
    "drop": drop_loop,
    "names": tell_names,
}
