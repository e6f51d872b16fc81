"""Copies, equality, texts, length and forgetting [26]."""

import unittest

from loopcases import ECHO, MAKE, events, loop_of, said, say
from rankloop.loops import Loop
from samples import anything

ALL = (
    MAKE, ("make", "q"), ("follow", "q", "p"), ("then", "p", "r", ECHO, None), ("all", "s", ("p", "p")), ("break", "s", "bad"),
    ("story", "t", (("guard", (("wait", "p"),), ECHO, say("last")), ("give", 1))), ("after", 9, 1, "a", ECHO), ("every", 4, 0, "b", ECHO),
    ("idle", 7, "c", ECHO), ("idle", None, "d", ECHO), ("post", 1, "e", (("yield", 2), ("echo",))), ("micro", (("run", "p"), ("echo",))),
    ("post", 0, "f", (("call", "ask"),)), ("post", 2, "g", (("spend", 5), ("keep", "p", (1, None)))), ("cancel", "t"),
)


def pass_by(told):
    return (("echo",), ("micro", ECHO))


def full_loop(**parts):
    """A loop with something of everything."""
    loop = loop_of(ALL, say("a"), patience=(None, 2, 1), flood=2, deep=2, calls={"ask": pass_by}, **parts)
    loop.post(say("low"), rank=2, name="low")
    return loop


class Copies(unittest.TestCase):
    def test_at_each_turn(self):
        for many in range(24):
            loop = full_loop()
            loop.turns(many)
            twin = loop.copy()
            self.assertEqual(twin, loop)
            self.assertEqual(str(twin), str(loop))
            self.assertEqual(twin.journal(), loop.journal())
            text = str(loop)
            twin.turns(9)
            twin.post(say("x"))
            twin.forget()
            self.assertEqual(str(loop), text)
            again = loop.copy()
            again.turns(9)
            loop.turns(9)
            self.assertEqual(again, loop)
            self.assertEqual(events(again), events(loop))

    def test_the_loop_goes_on_for_itself_too(self):
        loop = full_loop()
        loop.turns(3)
        twin = loop.copy()
        text = str(twin)
        loop.turns(12)
        loop.forget()
        self.assertEqual(str(twin), text)
        self.assertEqual(twin.depth(), 1)

    def test_a_copy_of_a_copy(self):
        loop = full_loop()
        loop.turns(2)
        twin = loop.copy().copy()
        twin.turns(5)
        loop.turns(5)
        self.assertEqual(twin, loop)

    def test_what_it_tells(self):
        loop = full_loop()
        loop.turns(4)
        twin = loop.copy()
        self.assertIsInstance(twin, Loop)
        self.assertEqual((twin.now(), twin.depth(), twin.lines(), twin.passes(), len(twin), twin.promise("q"), twin.is_busy()),
                         (loop.now(), loop.depth(), loop.lines(), loop.passes(), len(loop), loop.promise("q"), False))

    def test_promises_of_a_copy_are_its_own(self):
        loop = loop_of((MAKE, ("story", "q", (("wait", "p"), ("give", 1))), ("any", "r", ("p",))))
        loop.turn()
        twin = loop.copy()
        twin.post((("cancel", "q"), ("keep", "p", 2)))
        twin.turns()
        self.assertEqual(loop.promise("q"), ("open",))
        loop.post((("keep", "p", 3),))
        loop.turns()
        self.assertEqual((loop.promise("q"), loop.promise("r")), (("kept", 1), ("kept", 3)))
        self.assertEqual((twin.promise("q"), twin.promise("r")), (("broken", "cancel"), ("kept", 2)))

    def test_a_cancel_in_a_copy(self):
        loop = loop_of((MAKE, ("story", "q", (("wait", "p"), ("give", 1)))))
        loop.turn()
        twin = loop.copy()
        twin.post((("cancel", "q"),))
        twin.turns()
        self.assertEqual((twin.promise("q"), loop.promise("q")), (("broken", "cancel"), ("open",)))

    def test_a_flood_that_was_told(self):
        # The def breaks the turn off behind the flood.
        script = (MAKE, ("keep", "p", 1), ("micro", ()), ("micro", say("a")), ("run", "p"), ("call", "ask"))
        loop = broken_off(script, flood=1)
        twin = loop.copy()
        loop.turns()
        twin.turns()
        self.assertEqual(events(loop), [("fault", 0, "out"), ("micro", 2), ("said", "a")])
        self.assertEqual(twin, loop)

    def test_copies_that_differ_in_a_single_thing(self):
        # Both have the very same works; what the first one does is told when it is asked.
        scripts = [
            (), (("rerank", "b", 1),), (("keep", "p", 1),), (("keep", "p", 2),), (("spend", 1),), (("post", 0, "x", ()), ("stop", "x")), (("make", "q"),),
            (("yield", 2),), (("stop", "a"),), (("after", 3, 0, "t", ()),), (("idle", 3, "t", ()),), (("run", "p"),), (("micro", (("wait", "p"),)),),
            (("micro", ()), ("micro", ())),
        ]
        told = []

        def ask(worth):
            return told[-1]

        loop = loop_of((MAKE, ("make", "q")), (("call", "ask"),), flood=1, calls={"ask": ask})
        loop.post(say("a"), name="a")
        loop.post(say("b"), rank=1, name="b")
        loop.turn()
        loops = []
        for script in scripts:
            told.append(script)
            twin = loop.copy()
            twin.turn()
            twin.forget()
            loops.append(twin)
        for at, one in enumerate(loops):
            for place, other in enumerate(loops):
                self.assertIs(one == other, at == place, (scripts[at], scripts[place]))
                self.assertIs(str(one) == str(other), at == place, (scripts[at], scripts[place]))
            self.assertEqual(one, one.copy())

    def test_followers_of_a_copy_are_its_own(self):
        loop = loop_of((MAKE, ("make", "q"), ("make", "r"), ("follow", "p", "q")))
        loop.turn()
        twin = loop.copy()
        twin.post((("follow", "q", "r"), ("follow", "r", "p")))
        twin.turns()
        loop.post((("follow", "r", "p"), ("keep", "q", 2)))
        loop.turns()
        self.assertEqual(loop.promise("r"), ("kept", 2))
        self.assertEqual(twin.promise("r"), ("broken", "ring"))


class Equal(unittest.TestCase):
    def test_a_loop_equals_nothing_else(self):
        loop = Loop()
        for thing in [*anything(), str(loop), loop.journal(), Loop]:
            self.assertIs(loop == thing, False)
            self.assertIs(loop != thing, True)

    def test_truths(self):
        self.assertIs(Loop() == Loop(), True)
        self.assertIs(Loop() != Loop(), False)

    def test_defs_aside(self):
        self.assertEqual(Loop(calls={"ask": pass_by}), Loop())
        self.assertEqual(str(Loop(calls={"ask": pass_by})), str(Loop()))

    def test_alike_made(self):
        one, other = full_loop(), full_loop()
        for _ in range(20):
            self.assertEqual(one, other)
            self.assertEqual(str(one), str(other))
            one.turn()
            self.assertNotEqual(one, other)
            self.assertNotEqual(str(one), str(other))
            other.turn()

    def test_names_in_another_order(self):
        one = loop_of((("make", "a"), ("make", "b"), ("keep", "a", 1), ("keep", "b", 1)))
        other = loop_of((("make", "b"), ("make", "b"), ("keep", "b", 1), ("make", "a")))
        self.assertNotEqual(one, other)
        one = loop_of((("make", "a"), ("make", "b"), ("make", "a")), (("make", "c"),))
        other = loop_of((("make", "b"), ("make", "b"), ("make", "a")), (("make", "c"),))
        for loop in (one, other):
            loop.turns()
            loop.forget()
        self.assertEqual(one, other)
        self.assertEqual(str(one), str(other))


def after_turns(*scripts, many=1, **parts):
    """A loop behind so many turns, that has forgotten."""
    loop = loop_of(*scripts, **parts)
    loop.turns(many)
    loop.forget()
    return loop


FAILS = {"ask": lambda told: [][0]}


def broken_off(*scripts, **parts):
    """A loop that a def broke off, and that has forgotten."""
    loop = loop_of(*scripts, calls=FAILS, **parts)
    try:
        loop.turn()
    except IndexError:
        loop.forget()
    return loop


def passed_over(script):
    """A loop with a work at rank 1, behind another work's turn."""
    loop = posted((1, "a", ()), (0, "b", script))
    loop.turn()
    loop.forget()
    return loop


def posted(*works):
    """A loop with works (rank, name, script)."""
    loop = Loop()
    for rank, name, script in works:
        loop.post(script, rank=rank, name=name)
    return loop


# Groups of loops, all of them unlike one another.
UNLIKE = {
    "ranks": lambda: [Loop(ranks=ranks) for ranks in range(1, 7)],
    "patience": lambda: [Loop(patience=patience) for patience in (None, (0, None, None), (None, 0, None), (1, None, None), (0, 0, 0))],
    "flood": lambda: [Loop(flood=flood) for flood in (1, 99, 100, 1000)],
    "deep": lambda: [Loop(deep=deep) for deep in (1, 7, 8, 20)],
    "clock": lambda: [after_turns((("spend", many),)) for many in (0, 1, 2)],
    "lines": lambda: [
        posted((0, "a", say("x")), (0, "a", say("y"))), posted((0, "a", say("y")), (0, "a", say("x"))),
        posted((0, "a", say("x")), (1, "a", say("y"))), posted((0, "b", say("x")), (0, "a", say("y"))),
        posted((1, "a", say("x")), (0, "a", say("y"))), posted((0, "a", say("x")), (0, "b", say("y"))),
    ],
    "passes": lambda: [passed_over(script) for script in ((), (("rerank", "a", 1),))],
    "what a work was told, gave, and whether it has begun": lambda: [
        after_turns((("yield", 0), ("echo",))), after_turns((("stop", "x"), ("yield", 0), ("echo",))), posted((0, "work", ECHO)),
        after_turns((("guard", (("give", 1),), None, (("yield", 0), ("echo",))),)),
        after_turns((("guard", (("give", 2),), None, (("yield", 0), ("echo",))),)),
        after_turns((("guard", (), None, (("yield", 0), ("echo",))),)),
        after_turns((("guard", (("fail", "x"),), None, (("yield", 0), ("echo",))),)),
        after_turns((("guard", (("fail", "y"),), None, (("yield", 0), ("echo",))),)),
        after_turns((("guard", (("yield", 0), ("echo",)), None, ()),)),
        after_turns((("guard", (("yield", 0), ("echo",)), (), ()),)),
        after_turns((("guard", (("yield", 0), ("echo",)), None, say("x")),)),
    ],
    "micros": lambda: [
        after_turns((("micro", ()), ("micro", say("x")), ("micro", say("y"))), flood=1),
        after_turns((("micro", ()), ("micro", say("y")), ("micro", say("x"))), flood=1),
        after_turns((("micro", ()), ("micro", say("x")), ("micro", ())), flood=1),
        after_turns((("micro", ()), ("micro", say("x")), ("after", 1, 0, "x", ())), flood=1),
    ],
    "micros that settle": lambda: [
        after_turns((MAKE, ("keep", "p", 1), ("micro", ()), ("then", "p", "q", None, None)), flood=1),
        after_turns((MAKE, ("keep", "p", 1), ("micro", ()), ("then", "p", "q", (), None)), flood=1),
        after_turns((MAKE, ("keep", "p", 1), ("micro", ()), ("all", "q", ("p",))), flood=1),
        after_turns((MAKE, ("keep", "p", 1), ("micro", ()), ("any", "q", ("p",))), flood=1),
    ],
    "timers": lambda: [
        after_turns((("after", 5, 0, "a", ()),)), after_turns((("after", 6, 0, "a", ()),)), after_turns((("after", 5, 1, "a", ()),)),
        after_turns((("after", 5, 0, "b", ()),)), after_turns((("after", 5, 0, "a", ECHO),)), after_turns((("every", 5, 0, "a", ()),)),
        after_turns((("after", 5, 0, "a", ()), ("stop", "a"))), after_turns((("idle", 5, "a", ()),)),
    ],
    "every": lambda: [
        after_turns((("every", 5, 0, "a", ()), ("spend", 1))), after_turns((("spend", 1), ("every", 5, 0, "a", ()))),
        after_turns((("spend", 1), ("every", 4, 0, "a", ()))),
    ],
    "idle ones": lambda: [
        after_turns((("idle", 5, "a", ()),)), after_turns((("idle", None, "a", ()),)), after_turns((("idle", 5, "b", ()),)),
        after_turns((("idle", 5, "a", ECHO),)), after_turns((("after", 5, 2, "a", ()),)),
    ],
    "promises": lambda: [
        after_turns(script) for script in [
            (), (MAKE,), (("make", "q"),), (MAKE, MAKE), (MAKE, ("make", "q")), (("make", "q"), MAKE), (MAKE, ("keep", "p", 1)),
            (MAKE, ("keep", "p", 2)), (MAKE, ("break", "p", "w")), (MAKE, MAKE, ("keep", "p", 1)), (MAKE, ("keep", "p", 1), MAKE),
            (MAKE, ("make", "q"), ("follow", "p", "q")), (MAKE, ("make", "q"), ("follow", "q", "p")),
        ]
    ],
    "taken or told": lambda: [
        after_turns((MAKE, ("break", "p", "w"))), after_turns((MAKE, ("break", "p", "w"), ("guard", (("run", "p"),), (), ()))),
        after_turns((MAKE, ("break", "p", "w"), ("micro", ()), ("micro", ())), flood=1),
    ],
    "taken while open": lambda: [
        after_turns((MAKE, ("story", "q", (("wait", "p"),)), ("micro", (("cancel", "q"),)), ("guard", (("run", "q"),), (), ()))),
        after_turns((MAKE, ("story", "q", (("fail", "cancel"),)), ("micro", ()), ("guard", (("run", "q"),), (), ()))),
    ],
    "untold ones in another order": lambda: [
        after_turns((("make", "a"), ("make", "b"), ("break", "a", "x"), ("break", "b", "x"), ("micro", ()), ("micro", ())), flood=1),
        after_turns((("make", "a"), ("make", "b"), ("break", "b", "x"), ("break", "a", "x"), ("micro", ()), ("micro", ())), flood=1),
    ],
    "takers": lambda: [
        after_turns((MAKE, ("then", "p", "q", None, None), ("make", "r"))), after_turns((MAKE, ("then", "p", "q", (), None), ("make", "r"))),
        after_turns((MAKE, ("then", "p", "q", None, ()), ("make", "r"))), after_turns((MAKE, ("all", "q", ("p",)), ("make", "r"))),
        after_turns((MAKE, ("any", "q", ("p",)), ("make", "r"))), after_turns((MAKE, ("each", "q", ("p",)), ("make", "r"))),
        after_turns((MAKE, ("first", "q", ("p",)), ("make", "r"))), after_turns((MAKE, ("first", "q", ("p", "p")), ("make", "r"))),
        after_turns((MAKE, ("first", "q", ()), ("make", "r"))),
    ],
    "takers in another order": lambda: [
        after_turns((MAKE, ("micro", (("wait", "p"), ("say", "a"))), ("micro", (("wait", "p"), ("say", "b"))))),
        after_turns((MAKE, ("micro", (("micro", (("wait", "p"), ("say", "a"))),)), ("micro", (("wait", "p"), ("say", "b"))))),
    ],
    "what has come of several": lambda: [
        after_turns((("make", "a"), ("make", "b"), ("make", "c"), ("keep", name, 1), ("each", "q", ("a", "b", "c")))) for name in "abc"
    ],
    "stories": lambda: [
        after_turns((MAKE, ("story", "q", (("yield", 0), ("wait", "p"))))),
        after_turns((MAKE, ("story", "q", (("yield", 0), ("wait", "p"))), ("micro", (("cancel", "q"),)))),
        after_turns((MAKE, ("story", "q", (("guard", (("cancel", "q"), ("yield", 0)), (), ()), ("yield", 0), ("wait", "p"))))),
    ],
    "open runs": lambda: [
        after_turns((MAKE, ("make", "q"), ("run", "p"))), after_turns((MAKE, ("make", "q"), ("run", "q"))),
        after_turns((MAKE, ("make", "q"), ("run", "p"), ("say", "a"))), after_turns((MAKE, ("make", "q"))),
    ],
    "open runs in another order": lambda: [
        after_turns((MAKE, ("run", "p")), (("run", "p"), ("say", "a")), many=2),
        after_turns((MAKE, ("run", "p"), ("say", "a")), (("run", "p"),), many=2),
    ],
    "numbers": lambda: [after_turns((("micro", ()),) * many) for many in range(3)],
    "journals": lambda: [loop_of(say("a")), *[behind_turns(script) for script in (say("a"), say("b"), say("a", "a"), (("micro", say("a")),))]],
    "broken off": lambda: [
        after_turns(()), broken_off((("call", "ask"),)), broken_off((("call", "ask"), ("say", "a"))),
        broken_off((("guard", (("call", "ask"),), None, ()),)), broken_off((("guard", (("call", "ask"),), (), ()),)),
        broken_off((("stop", "x"), ("call", "ask"))),
    ],
    "floods under way": lambda: [
        broken_off((("micro", (("call", "ask"),)), ("micro", ())), flood=2),
        broken_off((("micro", ()), ("micro", (("call", "ask"),)), ("micro", ())), flood=2),
    ],
}


def behind_turns(script):
    """A loop that has done a script."""
    loop = loop_of(script)
    loop.turns()
    return loop


# Groups of loops, all of them alike: what was, and stands there no more, makes no difference.
ALIKE = {
    "takers that came": lambda: [
        after_turns((MAKE, ("micro", script), ("post", 0, "x", (("keep", "p", 1),))), many=2) for script in ((), (("wait", "p"),))
    ],
    "several, settled otherwise": lambda: [
        after_turns((MAKE, (word, "q", ("p", "p")), ("keep", "q", 1))) for word in ("all", "any", "first", "each")
    ],
    "several, that follow": lambda: [
        after_turns((MAKE, ("make", "r"), (word, "q", ("p", "p")), ("follow", "q", "r"))) for word in ("all", "any", "first", "each")
    ],
    "a cancel behind a story's end": lambda: [
        after_turns((("story", "q", ()), ("post", 0, "x", script)), many=2) for script in ((), (("cancel", "q"),))
    ],
    "a cancel that came to nothing": lambda: [
        after_turns((("story", "q", (("spend", 1), *script)),)) for script in ((), (("cancel", "q"),))
    ],
    "late or in time": lambda: [
        after_turns((MAKE, ("break", "p", "w"), ("micro", (("guard", (("wait", "p"),), (), ()),))), (), many=2),
        after_turns((MAKE, ("break", "p", "w"), ("micro", ())), (("guard", (("wait", "p"),), (), ()),), many=2),
    ],
    "floods": lambda: [
        after_turns((("micro", ()), ("micro", ()), ("micro", ())), many=4, flood=4),
        after_turns((("micro", ()), ("micro", (("micro", ()),))), many=4, flood=4),
    ],
}


class Unlike(unittest.TestCase):
    def test_each_single_thing(self):
        for name in UNLIKE:
            loops, others = UNLIKE[name](), UNLIKE[name]()
            for at, loop in enumerate(loops):
                for place, other in enumerate(others):
                    self.assertIs(loop == other, at == place, (name, at, place))
                    self.assertIs(loop != other, at != place, (name, at, place))
                    self.assertIs(str(loop) == str(other), at == place, (name, at, place))
                self.assertEqual(loop.copy(), loop)

    def test_what_stands_there_no_more(self):
        for name in ALIKE:
            loops = ALIKE[name]()
            for loop in loops:
                self.assertEqual(loop, loops[0], name)
                self.assertEqual(str(loop), str(loops[0]), name)

    def test_a_flood_that_was_told(self):
        # One micro was done in both turns, and one is left; only in the first of them that was told.
        first = (MAKE, ("keep", "p", 1), ("micro", ()), ("micro", say("a")), ("run", "p"), ("call", "ask"))
        second = (MAKE, ("keep", "p", 1), ("micro", ()), ("run", "p"), ("micro", say("a")), ("call", "ask"))
        loop = broken_off(first, flood=1)
        other = broken_off(second, flood=1)
        self.assertNotEqual(loop, other)
        self.assertNotEqual(str(loop), str(other))


class Texts(unittest.TestCase):
    def test_rows_of_plain_signs(self):
        loop = full_loop()
        for _ in range(24):
            text = str(loop)
            self.assertIsInstance(text, str)
            self.assertNotEqual(text, "")
            self.assertEqual([sign for sign in text if sign != "\n" and not " " <= sign <= "~" or sign == "%"], [])
            loop.turn()

    def test_asking_changes_nothing(self):
        loop = full_loop()
        loop.turns(5)
        self.assertEqual(str(loop), str(loop))
        self.assertEqual(f"{loop}", str(loop))
        self.assertEqual(loop, loop.copy())


class Length(unittest.TestCase):
    def test_works_in_lines(self):
        loop = Loop()
        self.assertEqual(len(loop), 0)
        loop.post((("post", 1, "a", ()), ("post", 2, "a", ()), ("after", 5, 0, "a", ()), ("idle", None, "a", ()), MAKE, ("micro", (("wait", "p"),)),
                   ("yield", 2)))
        loop.post((), rank=1)
        self.assertEqual(len(loop), 2)
        loop.turn()
        self.assertEqual(loop.lines(), [[], ["work", "a"], ["a", "work"]])
        self.assertEqual(len(loop), 4)


class Forget(unittest.TestCase):
    def test_the_journal_is_empty(self):
        loop = full_loop()
        loop.turns(4)
        lines, passes, now = loop.lines(), loop.passes(), loop.now()
        self.assertIsNone(loop.forget())
        self.assertEqual(loop.journal(), [])
        self.assertEqual((loop.lines(), loop.passes(), loop.now()), (lines, passes, now))

    def test_it_goes_on_as_ever(self):
        for many in range(12):
            loop = full_loop()
            loop.turns(many)
            before = len(loop.journal())
            twin = loop.copy()
            twin.forget()
            self.assertEqual(len(loop.journal()), before)
            loop.turns(8)
            twin.turns(8)
            self.assertEqual(twin.journal(), loop.journal()[before:])
            loop.forget()
            twin.forget()
            self.assertEqual(twin, loop)

    def test_what_was_told_of_promises_stays(self):
        loop = loop_of((MAKE, ("break", "p", "bad")))
        loop.turns()
        loop.forget()
        loop.post((("guard", (("wait", "p"),), ECHO, ()),))
        loop.turns()
        self.assertEqual(events(loop), [("task", 1, 0, "least"), ("late", 0), ("micro", 1), ("said", "bad")])
        self.assertEqual(said(loop), ["bad"])


if __name__ == "__main__":
    unittest.main()
