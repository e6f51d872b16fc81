"""A desk, its rows, and several of them [27, 28]."""

import copy
import unittest

from loopcases import say
from rankloop.desk import Desk
from rankloop.errors import Busy, NoLoop, NoMark, NoPromise, NoRank, NoRow, NoScript, NoText, TooMany, Undone
from rankloop.loops import Loop
from rankloop.scripttexts import show_script
from samples import anything, random_scripts

ASK = "( call ask )"


def kept(desk, busy=None):
    """The texts of all loops and marks, and what was told of them; but of one that is busy."""
    rows = []
    for name, (loop, told, mark) in sorted(desk.shelf.items()):
        if name != busy:
            rows.append((name, str(loop), told, None if mark is None else (str(mark[0]), mark[1])))
    return rows


def desk_with(*rows, **parts):
    """A desk that was told these rows."""
    desk = Desk(**parts)
    for row in rows:
        desk.answer(row)
    return desk


class Rows(unittest.TestCase):
    def dialogue(self, desk, *rows):
        """Rows, each with what it tells."""
        for row, told in rows:
            answer = desk.answer(row)
            self.assertEqual(answer, told, row)
            self.assertIs(answer.__class__, str)

    def refused(self, desk, told, error, **fields):
        """A row is refused, and nothing is changed."""
        before = kept(desk)
        with self.assertRaises(error) as caught:
            desk.answer(told)
        self.assertIs(caught.exception.__class__, error)
        for name, worth in fields.items():
            self.assertEqual(getattr(caught.exception, name), worth)
        self.assertEqual(kept(desk), before)

    def test_a_day(self):
        self.dialogue(
            Desk(), ("names", "-"), ("loop a 3", "ok"), ("names", "a"), ("lines a", "-; -; -"), ("journal a", "-"), ("new a", "-"),
            ("post a 0 w ( say x ) ( make p )", "0"), ("post a 2 low", "1"), ("post a 2 deep ( echo )", "2"), ("lines a", "w; -; low deep"),
            ("turns a 1", "1"), ("journal a", "0 task 0 0 least; 0 said x"), ("promise a p", "open"), ("turns a 9999", "2"),
            ("new a", "0 task 1 2 least; 0 task 2 2 least; 0 said -"), ("new a", "-"),
            ("journal a", "0 task 0 0 least; 0 said x; 0 task 1 2 least; 0 task 2 2 least; 0 said -"), ("turns a 5", "0"), ("drop a", "ok"), ("names", "-"),
        )

    def test_names_are_sorted(self):
        self.dialogue(desk_with("loop b 1", "loop abc 1", "loop a 1", "loop zz 1"), ("names", "a abc b zz"))

    def test_ranks_and_patience(self):
        for row, patience in (("loop a 1", (None,)), ("loop a 6", (None,) * 6), ("loop a 1 patience 9", (9,)), ("loop a 1 patience -", (None,)),
                              ("loop a 3 patience 0 - 7", (0, None, 7)), ("loop a 6 patience - - - - - 1", (None,) * 5 + (1,))):
            desk = desk_with(row)
            self.assertEqual(desk.shelf["a"][0], Loop(ranks=len(patience), patience=patience))

    def test_patience_tells(self):
        desk = desk_with("loop a 2 patience - 1", "post a 0 w", "post a 0 w", "post a 1 x")
        self.dialogue(desk, ("turns a 3", "3"), ("journal a", "0 task 0 0 least; 0 task 2 1 overdue; 0 task 1 0 least"))

    def test_posts_of_any_script(self):
        desk = desk_with("loop a 6")
        for number, script in enumerate(random_scripts(60)):
            row = f"post a 1 w {show_script(script)}" if script else "post a 1 w"
            self.assertEqual(desk.answer(row), f"{number}")
        loop = Loop(ranks=6)
        for script in random_scripts(60):
            loop.post(script, rank=1, name="w")
        self.assertEqual(desk.shelf["a"][0], loop)

    def test_promises(self):
        desk = desk_with("loop a 1", "post a 0 w ( make p ) ( make q ) ( follow p q ) ( make r ) ( keep r < 1 - < x > > ) ( make s ) ( break s bad ) "
                         "( any t < s > ) ( make u ) ( keep u - )", "turns a 9")
        self.dialogue(desk, ("promise a p", "follows"), ("promise a q", "open"), ("promise a r", "kept < 1 - < x > >"), ("promise a s", "broken bad"),
                      ("promise a t", "broken < bad >"), ("promise a u", "kept -"))
        self.refused(desk, "promise a v", NoPromise, name="v")

    def test_lines(self):
        desk = desk_with("loop a 3", "post a 0 w ( micro [ ( yield 1 ) ] ) ( yield 1 )", "post a 1 x", "post a 1 x", "turns a 1")
        self.dialogue(desk, ("lines a", "-; x x w .; -"))

    def test_copies(self):
        desk = desk_with("loop a 1", "post a 0 w ( say x )", "post a 0 w ( say y )", "turns a 1", "journal a", "copy a b")
        # Nothing was told of the copy.
        self.dialogue(desk, ("new a", "-"), ("new b", "0 task 0 0 least; 0 said x"), ("turns b 5", "1"), ("lines a", "w"), ("lines b", "-"),
                      ("post a 0 z", "2"), ("names", "a b"), ("copy b a", "ok"), ("lines a", "-"),
                      ("new a", "0 task 0 0 least; 0 said x; 0 task 1 0 least; 0 said y"))

    def test_a_copy_to_itself(self):
        desk = desk_with("loop a 1", "post a 0 w", "turns a 1", "new a", "mark a")
        self.dialogue(desk, ("copy a a", "ok"), ("new a", "0 task 0 0 least"))
        self.refused(desk, "back a", NoMark, name="a")

    def test_marks(self):
        desk = desk_with("loop a 1", "post a 0 w ( say x )", "post a 0 w ( say y )", "turns a 1", "new a", "mark a")
        for _ in range(2):
            self.dialogue(desk, ("turns a 9", "1"), ("new a", "0 task 1 0 least; 0 said y"), ("post a 0 z", "2"), ("new a", "-"), ("back a", "ok"),
                          ("lines a", "w"), ("new a", "-"))
        self.dialogue(desk, ("turns a 9", "1"), ("mark a", "ok"), ("new a", "0 task 1 0 least; 0 said y"), ("back a", "ok"),
                      ("new a", "0 task 1 0 least; 0 said y"), ("new a", "-"), ("back a", "ok"), ("new a", "0 task 1 0 least; 0 said y"), ("lines a", "-"))

    def test_new_behind_journal_new_and_back(self):
        desk = desk_with("loop a 1", "post a 0 w ( say x )", "mark a", "turns a 1")
        self.dialogue(desk, ("journal a", "0 task 0 0 least; 0 said x"), ("new a", "-"), ("back a", "ok"), ("new a", "-"), ("turns a 1", "1"),
                      ("new a", "0 task 0 0 least; 0 said x"), ("new a", "-"), ("journal a", "0 task 0 0 least; 0 said x"))

    def test_no_marks_of_loops_made_copied_to_or_dropped(self):
        ahead = ("loop a 1", "loop b 1", "post a 0 w ( say x )", "turns a 1", "new a", "mark a", "mark b")
        for row in ("loop a 2", "copy b a"):
            desk = desk_with(*ahead, row)
            self.refused(desk, "back a", NoMark, name="a")
            self.assertEqual(desk.answer("new a"), "-")
            self.assertEqual(desk.answer("back b"), "ok")
        desk = desk_with(*ahead, "drop a")
        self.refused(desk, "back a", NoLoop, name="a")
        desk.answer("loop a 1")
        self.refused(desk, "back a", NoMark, name="a")
        # The one that is copied keeps its own.
        desk = desk_with(*ahead, "copy a b")
        self.assertEqual(desk.answer("back a"), "ok")
        self.refused(desk, "back b", NoMark, name="b")

    def test_nothing_told_of_one_that_is_made_anew(self):
        desk = desk_with("loop a 1", "post a 0 w", "post a 0 w", "turns a 2", "new a", "loop a 1", "post a 0 w", "turns a 1")
        self.assertEqual(desk.answer("new a"), "0 task 0 0 least")

    def test_loops_by_the_rows_own_words(self):
        words = ("loop", "post", "turns", "journal", "new", "promise", "lines", "copy", "mark", "back", "drop", "names", "patience")
        desk = Desk()
        for word in words:
            self.dialogue(desk, (f"loop {word} 2 patience 1 -", "ok"), (f"post {word} 1 {word} ( make {word} )", "0"), (f"turns {word} 1", "1"),
                          (f"promise {word} {word}", "open"), (f"mark {word}", "ok"), (f"back {word}", "ok"), (f"new {word}", "0 task 0 1 least"))
        self.assertEqual(desk.answer("names"), " ".join(sorted(words)))
        for word in words:
            self.dialogue(desk, (f"copy {word} x", "ok"), (f"drop {word}", "ok"))

    def test_no_loops(self):
        desk = desk_with("loop a 1")
        for row in ("post b 0 w", "post b 9 w ( echo )", "turns b 1", "journal b", "new b", "promise b p", "lines b", "copy b a", "copy b b", "mark b",
                    "back b", "drop b"):
            self.refused(desk, row, NoLoop, name="b")

    def test_no_ranks(self):
        desk = desk_with("loop a 2")
        for rank in (2, 5, 6, 10, 9999):
            self.refused(desk, f"post a {rank} w", NoRank, rank=rank)
        self.assertEqual(desk.answer("post a 1 w"), "0")

    def test_no_promises_and_no_marks(self):
        desk = desk_with("loop a 2")
        self.refused(desk, "promise a p", NoPromise, name="p")
        self.refused(desk, "back a", NoMark, name="a")

    WRONG = (
        "", " ", "\n", "loop", "loop a", "loop a 0", "loop a 7", "loop a 10", "loop a 03", "loop a +3", "loop a -3", "loop a x", "loop a -", "loop a 3 x",
        "loop a 3 patience", "loop a 3 patience 1 2", "loop a 3 patience 1 2 3 4", "loop a 1 patience 10", "loop a 1 patience 00", "loop a 1 patience x",
        "loop a 1 patience -1", "loop a 1 patience --", "loop a 1 patience 1 -", "loop a 1 patient 1", "loop A 1", "loop abcdefghi 1", "loop a1 1",
        "loop  a 1", " loop a 1", "loop a 1 ", "loop a 1\n", "loop\ta\t1", "loop a\n1", "Loop a 1", "loop - 1", "loop 1 a", "loop a 1.", "loop a 1 patience 1 ",
        "post", "post a", "post a 0", "post a 0 W", "post a 0 -", "post a 0 w ", "post a 0 w  ( echo )", "post a 0 w ( echo ) ", "post a 0 w (echo)",
        "post a 0 w ( echo", "post a 0 w echo", "post a 0 w ( ecko )", "post a 0 w ( say )", "post a 0 w ( say X )", "post a 0 w ( spend 1001 )",
        "post a 0 w ( spend 01 )", "post a 0 w ( echo )\n", "post a 00 w", "post a -1 w", "post a - w", "post a 12345 w", "post a x w", "post a 0 w [ ]",
        "post a 0 w ( spend " + "9" * 5000 + " )", "post a " + "9" * 5000 + " w", "post a 0 w " + "( echo ) " * 200 + "( echo )", "post a 0 w -", "post A 0 w",
        "post a 0 abcdefghi", "turns", "turns a", "turns a 00", "turns a 01", "turns a 10000", "turns a -1", "turns a x", "turns a 1 1", "turns a " + "1" * 5000,
        "turns a \u0661", "turns a \u00b2", "turns a 1\n", "turns A 1", "journal", "journal a b", "journal A", "journal a ", "new", "new a b", "new a1", "promise",
        "promise a", "promise a P", "promise a p q", "promise a -", "lines", "lines a a", "copy", "copy a", "copy a B", "copy a b c", "mark", "mark a b", "mark 1",
        "back", "back a b", "back -", "drop", "drop a b", "drop a  ", "names a", "names ", " names", "names\n", "Names", "nam", "name", "help", "quit", "a", "post\u00a0a 0 w",
        "names\x00", "journal \u0430", "copy a  b", "; names", "names; names", "loop a 1\nloop b 1",
    )

    def test_no_rows(self):
        for desk in (Desk(), desk_with("loop a 3", "post a 0 w ( echo )", "turns a 1", "mark a")):
            for row in self.WRONG:
                self.refused(desk, row, NoRow, row=row)

    def test_no_row_goes_ahead_of_all_else(self):
        desk = desk_with("loop a 1")
        for row in ("post b 9 W", "post b 9 w ( ecko )", "turns b 01", "promise b P", "copy b B", "back b b", "post a 9 w ( say )"):
            self.refused(desk, row, NoRow, row=row)

    def test_of_anything(self):
        desk = desk_with("loop a 3")
        for thing in [*anything(), b"names", ["names"], ("names",), {"names": 1}, Desk, Loop()]:
            before = kept(desk)
            with self.assertRaises(NoRow) as caught:
                desk.answer(thing)
            self.assertIs(caught.exception.row, thing)
            self.assertEqual(kept(desk), before)

    def test_by_name(self):
        desk = Desk(calls=None)
        self.assertEqual(desk.answer(row="names"), "-")
        self.assertEqual(desk.several(rows=["names"]), ["-"])
        with self.assertRaises(TypeError):
            Desk({})

    def test_numbers_of_four_figures(self):
        desk = desk_with("loop a 1", "post a 0 w ( every 1000 0 n [ ] )")
        self.assertEqual(desk.answer("turns a 0"), "0")
        self.assertEqual(desk.answer("turns a 400"), "400")
        self.assertEqual(desk.answer("turns a 1000"), "1000")

    def test_defs(self):
        calls = {"ask": lambda told: say("asked")}
        desk = Desk(calls=calls)
        calls.clear()
        self.dialogue(desk, ("loop a 1", "ok"), (f"post a 0 w {ASK}", "0"), ("copy a b", "ok"), ("turns a 1", "1"), ("turns b 1", "1"), ("mark a", "ok"),
                      ("journal b", "0 task 0 0 least; 0 said asked"), ("back a", "ok"), (f"post a 0 w {ASK}", "1"), ("turns a 1", "1"),
                      ("new a", "0 task 0 0 least; 0 said asked; 0 task 1 0 least; 0 said asked"))

    def test_what_a_def_raises_comes_out(self):
        for error in (ZeroDivisionError(), NoRow(3), NoLoop("x"), Busy(), Undone(1, None), KeyboardInterrupt()):
            desk = Desk(calls={"ask": raiser(error)})
            desk.answer("loop a 1")
            desk.answer(f"post a 0 w ( say x ) {ASK}")
            with self.assertRaises(error.__class__) as caught:
                desk.answer("turns a 5")
            self.assertIs(caught.exception, error)
            # As with a loop: the work fails when the next turn is asked.
            self.dialogue(desk, ("new a", "0 task 0 0 least; 0 said x"), ("turns a 5", "1"), ("new a", "0 fault 0 out"))


def raiser(error):
    def ask(told):
        raise error
    return ask


class Amid(unittest.TestCase):
    """A def that asks the desk while it is asked."""

    def amid(self, ask, *rows, ahead=()):
        """A desk whose def asks it by this function, behind a turn of loop a in which it is asked."""
        told = []
        desk = Desk(calls={"ask": lambda worth: told.append(ask(desk)) or ()})
        for row in ("loop a 2", "loop b 1", "post b 0 w ( say b )", *ahead, f"post a 0 w ( say x ) ( make p ) {ASK} ( say y )", "post a 1 low"):
            desk.answer(row)
        told.append(desk.answer("turns a 5"))
        return desk, told

    def test_busy(self):
        for row in ("post a 0 w", "post a 9 w", "turns a 1", "turns a 0", "copy a b", "copy a a", "copy a c", "mark a"):
            def ask(desk):
                before = desk.answer("names"), desk.answer("journal a"), desk.answer("lines a")
                with self.assertRaises(Busy) as caught:
                    desk.answer(row)
                self.assertIs(caught.exception.__class__, Busy)
                self.assertEqual((desk.answer("names"), desk.answer("journal a"), desk.answer("lines a")), before)
                return row

            desk, told = self.amid(ask)
            self.assertEqual(told, [row, "2"])
            self.assertEqual(desk.answer("journal a"), "0 task 0 0 least; 0 said x; 0 said y; 0 task 1 1 least")
            if row != "post a 9 w":
                self.assertIn(desk.answer(row), ("2", "0", "ok"))

    def test_all_else_is_answered(self):
        rows = (
            ("names", "a b"), ("journal a", "0 task 0 0 least; 0 said x"), ("new a", "-"), ("lines a", "-; low"), ("promise a p", "open"), ("turns b 1", "1"),
            ("post b 0 z", "1"), ("new b", "0 task 0 0 least; 0 said b"), ("mark b", "ok"), ("copy b c", "ok"), ("back b", "ok"), ("loop d 1", "ok"), ("drop d", "ok"),
        )
        desk, told = self.amid(lambda desk: [desk.answer(row) for row, _ in rows])
        self.assertEqual(told, [[answer for _, answer in rows], "2"])
        self.assertEqual(desk.answer("new a"), "0 said y; 0 task 1 1 least")

    def test_refusals_ahead_of_busy(self):
        def ask(desk):
            for row, error in (("post a 0 W", NoRow), ("turns c 1", NoLoop), ("back a", NoMark), ("promise a q", NoPromise), (None, NoRow)):
                with self.assertRaises(error):
                    desk.answer(row)

        self.amid(ask)

    def test_the_loop_is_made_anew_dropped_or_copied_to(self):
        for row, names, lines in (("loop a 1", "a b", "-"), ("copy b a", "a b", "w"), ("drop a", "b", None), ("back a", "a b", "first; -")):
            ahead = ("post a 0 first", "mark a", "turns a 1") if row == "back a" else ()
            desk, told = self.amid(lambda desk: desk.answer(row), ahead=ahead)
            # The turns go on, of a loop that the desk keeps no more.
            self.assertEqual(told, ["ok", "2"])
            self.assertEqual(desk.answer("names"), names)
            if lines is not None:
                self.assertEqual(desk.answer("lines a"), lines)

    def test_several_amid(self):
        def ask(desk):
            told = desk.several(["names", "post b 0 z", "turns b 1", "lines b", "journal a", "loop c 1"])
            before = kept(desk, "a")
            for row in ("post a 0 w", "turns a 1", "mark a", "copy a b"):
                with self.assertRaises(Undone) as caught:
                    desk.several(["post b 0 z", "drop c", "mark b", row])
                self.assertEqual((caught.exception.row, caught.exception.why.__class__), (3, Busy))
                self.assertEqual(kept(desk, "a"), before)
            return told

        desk, told = self.amid(ask)
        self.assertEqual(told, [["a b", "1", "1", "z", "0 task 0 0 least; 0 said x", "ok"], "2"])
        self.assertEqual(desk.answer("names"), "a b c")
        self.assertEqual(desk.answer("new a"), "0 said y; 0 task 1 1 least")

    def test_a_loop_within_a_loop(self):
        # A def of loop b asks loop c, amid a def of loop a that asks loop b.
        order = []

        def ask(worth):
            order.append(worth)
            if len(order) == 1:
                order.append(desk.answer("turns b 3"))
                with self.assertRaises(Busy):
                    desk.answer("turns a 1")
            elif len(order) == 2:
                for row in ("turns a 1", "turns b 1", "post a 0 w", "mark b"):
                    with self.assertRaises(Busy):
                        desk.answer(row)
                order.append(desk.answer("turns c 3"))
            return ()

        desk = Desk(calls={"ask": ask})
        for row in ("loop a 1", "loop b 1", "loop c 1", f"post a 0 w {ASK}", f"post b 0 w {ASK} ( say b )", "post c 0 w ( say c )"):
            desk.answer(row)
        self.assertEqual(desk.answer("turns a 3"), "1")
        self.assertEqual(order, [None, None, "1", "1"])


class Several(unittest.TestCase):
    AHEAD = ("loop a 2", "post a 0 w ( say x ) ( make p )", "post a 1 low ( say y )", "turns a 1", "new a", "mark a", "loop b 1", "turns a 1")

    def test_none(self):
        desk = desk_with(*self.AHEAD)
        before = kept(desk)
        told = desk.several([])
        self.assertEqual(told, [])
        told.append("x")
        self.assertEqual(desk.several([]), [])
        self.assertEqual(kept(desk), before)

    def test_some(self):
        rows = ["loop c 1", "post c 0 w ( say z )", "turns c 5", "new c", "new a", "back a", "new a", "mark c", "copy c d", "drop b", "names", "journal d",
                "lines a", "promise a p"]
        one, other = desk_with(*self.AHEAD), desk_with(*self.AHEAD)
        answers = one.several(rows)
        self.assertEqual(answers, [other.answer(row) for row in rows])
        self.assertEqual(answers[:4], ["ok", "0", "1", "0 task 0 0 least; 0 said z"])
        self.assertEqual(kept(one), kept(other))
        # And it goes on so.
        for row in ("post a 0 w", "turns a 9", "new a", "back c", "post d 0 z", "lines c"):
            self.assertEqual(one.answer(row), other.answer(row))
        self.assertEqual(kept(one), kept(other))

    REFUSED = (("none", NoRow), (None, NoRow), (7, NoRow), (["names"], NoRow), ("turns z 1", NoLoop), ("post a 5 w", NoRank), ("promise a z", NoPromise),
               ("back b", NoMark))

    def test_one_that_is_refused_at_each_place(self):
        rows = ["post a 0 w ( say z )", "turns a 5", "new a", "mark a", "back a", "journal a", "loop a 1", "copy a b", "drop a", "loop a 3", "names", "drop b",
                "copy a b"]
        for bad, error in self.REFUSED:
            for at in range(len(rows) + 1):
                if error in (NoRank, NoPromise, NoMark) and at > 8:
                    continue
                desk = desk_with(*self.AHEAD)
                before = kept(desk)
                loops = {name: desk.shelf[name][0] for name in desk.shelf}
                told = [*rows[:at], bad, *rows[at:]]
                handed = copy.copy(told)
                with self.assertRaises(Undone) as caught:
                    desk.several(told)
                self.assertIs(caught.exception.__class__, Undone)
                self.assertEqual(caught.exception.row, at)
                self.assertIs(caught.exception.why.__class__, error)
                self.assertEqual(told, handed)
                self.assertEqual(kept(desk), before)
                self.assertEqual({name: desk.shelf[name][0] for name in desk.shelf}, loops)
                other = desk_with(*self.AHEAD)
                for row in rows:
                    self.assertEqual(desk.answer(row), other.answer(row))

    def test_the_refusal_has_its_fields(self):
        desk = desk_with(*self.AHEAD)
        for row, name, worth in (("none", "row", "none"), ("turns z 1", "name", "z"), ("post a 5 w", "rank", 5), ("promise a z", "name", "z"), ("back b", "name", "b")):
            with self.assertRaises(Undone) as caught:
                desk.several(["names", row])
            self.assertEqual(caught.exception.row, 1)
            self.assertEqual(getattr(caught.exception.why, name), worth)

    def test_the_first_refusal_goes(self):
        with self.assertRaises(Undone) as caught:
            Desk().several(["names", "lines a", "none", "loop a 1"])
        self.assertEqual((caught.exception.row, caught.exception.why.__class__), (1, NoLoop))

    def test_the_list_is_unchanged(self):
        rows = ["loop a 1", "names"]
        Desk().several(rows)
        self.assertEqual(rows, ["loop a 1", "names"])

    def raised(self, error, undone):
        """A def raises amid several rows."""
        desk = desk_with(*self.AHEAD, calls={"ask": raiser(error), "fine": lambda told: say("fine")})
        desk.answer(f"post a 0 w ( call fine ) {ASK}")
        before = kept(desk)
        rows = ["post b 0 w ( say b )", "turns b 1", "new a", "mark a", "loop c 1", "turns a 5", "names"]
        with self.assertRaises(Undone if undone else error.__class__) as caught:
            desk.several(rows)
        if undone:
            self.assertEqual(caught.exception.row, 5)
            self.assertIs(caught.exception.why, error)
        else:
            self.assertIs(caught.exception, error)
        self.assertEqual(kept(desk), before)
        self.assertIs(desk.shelf["a"][0].is_busy(), False)
        self.assertEqual(desk.amid, 0)
        # The def is asked anew, and so raises again.
        with self.assertRaises(error.__class__):
            desk.answer("turns a 5")
        self.assertEqual(desk.answer("turns a 5"), "1")

    def test_a_def_that_raises_a_refusal_of_the_desk(self):
        for error in (NoRow("x"), NoLoop("x"), NoRank(3), NoPromise("x"), NoMark("x"), Busy()):
            self.raised(error, True)

    def test_a_def_that_raises_anything_else(self):
        for error in (ZeroDivisionError(), ValueError(), KeyError(), IndexError(), RuntimeError(), LookupError(), KeyboardInterrupt(), StopIteration(),
                      NoScript(1), NoText(0), TooMany(1), Undone(0, None), GeneratorExit()):
            self.raised(error, False)

    def test_a_def_that_changes_others_amid(self):
        def ask(told):
            for row in ("post b 0 z", "turns b 1", "loop c 1", "mark b", "new b", "drop d", "copy b e"):
                desk.answer(row)
            desk.several(["post b 0 y", "post c 0 y"])
            return say("asked")

        desk = Desk(calls={"ask": ask})
        for row in ("loop a 1", "loop b 1", "loop d 1", "post b 0 w ( say b )", f"post a 0 w {ASK}"):
            desk.answer(row)
        before = kept(desk)
        with self.assertRaises(Undone):
            desk.several(["turns a 1", "none"])
        self.assertEqual(kept(desk), before)
        self.assertEqual(desk.several(["turns a 1", "lines b", "names", "journal a"]), ["1", "z y", "a b c e", "0 task 0 0 least; 0 said asked"])

    def test_several_within_several(self):
        def ask(told):
            try:
                desk.several(["post b 0 z", "turns b 5", "drop c", "none"])
            except Undone as error:
                rows.append((error.row, desk.answer("lines b"), desk.answer("names")))
            desk.answer("post b 0 last")
            return ()

        rows = []
        desk = Desk(calls={"ask": ask})
        for row in ("loop a 1", "loop b 1", "loop c 1", f"post a 0 w {ASK}"):
            desk.answer(row)
        before = kept(desk)
        with self.assertRaises(Undone):
            desk.several(["post b 0 first", "turns a 1", "none"])
        self.assertEqual(kept(desk), before)
        self.assertEqual(desk.several(["post b 0 first", "turns a 1", "lines b"]), ["0", "1", "first last"])
        self.assertEqual(rows, [(3, "first", "a b c")] * 2)

    def test_rows_that_a_def_changes(self):
        rows = ["loop a 1", f"post a 0 w {ASK}", "turns a 1", "names"]
        desk = Desk(calls={"ask": lambda told: rows.clear() or ()})
        self.assertEqual(desk.several(rows), ["ok", "0", "1", "a"])

    def test_the_answers_are_the_askers_own(self):
        desk = desk_with(*self.AHEAD)
        told = desk.several(["names"])
        told.append("x")
        self.assertEqual(desk.several(["names"]), ["a b"])


if __name__ == "__main__":
    unittest.main()
