"""Each of the thirty deeds: what it does, writes and tells, and where it fails [8 to 20]."""

import unittest

from loopcases import ECHO, MAKE, behind, done, events, events_of, loop_of, said_by, say, steps
from rankloop.loops import Loop
from rankloop.scripts import DEEDS

S = say("s")


class Plain(unittest.TestCase):
    def test_say(self):
        self.assertEqual(events_of(say("a", "b")), [("task", 0, 0, "least"), ("said", "a"), ("said", "b")])

    def test_echo(self):
        self.assertEqual(said_by(ECHO), [None])
        self.assertEqual(said_by((("stop", "x"), ("echo",), ("echo",))), [0, 0])

    def test_told_last_stays(self):
        script = (MAKE, ("keep", "p", "w"), ("wait", "p"), ("say", "a"), ("make", "q"), ("echo",), ("stop", "x"), ("echo",))
        self.assertEqual(said_by(script), ["a", "w", 0])

    def test_spend(self):
        loop = done((("spend", 0), ("say", "a"), ("spend", 1000), ("say", "b"), ("spend", 5)), say("c"))
        self.assertEqual([row for row in loop.journal() if row[1] == "said"], [
            (0, "said", "a"), (1000, "said", "b"), (1005, "said", "c")
        ])
        self.assertEqual(loop.now(), 1005)

    def test_post(self):
        loop = loop_of((("post", 1, "a", S), ("post", 1, "b", ()), ("post", 0, "c", ())))
        loop.turn()
        self.assertEqual(loop.lines(), [["c"], ["a", "b"], []])
        loop.turns()
        self.assertEqual(events(loop), [
            ("task", 0, 0, "least"), ("task", 3, 0, "least"), ("task", 1, 1, "least"), ("said", "s"),
            ("task", 2, 1, "least"),
        ])

    def test_posted_works_are_told_nothing(self):
        self.assertEqual(said_by((("stop", "x"), ("post", 0, "a", ECHO), ("micro", ECHO), ("echo",))), [0, None, None])

    def test_micro(self):
        self.assertEqual(events_of((("micro", say("b")), ("micro", ()), ("say", "a"))), [
            ("task", 0, 0, "least"), ("said", "a"), ("micro", 1), ("said", "b"), ("micro", 2)
        ])

    def test_fail(self):
        loop = done((("say", "a"), ("fail", "bad"), ("say", "b")))
        self.assertEqual(loop.journal(), [(0, "task", 0, 0, "least"), (0, "said", "a"), (0, "fault", 0, "bad")])
        self.assertEqual(events_of((("micro", (("fail", "bad"), ("echo",))),))[1:], [("micro", 1), ("fault", 1, "bad")])

    def test_give(self):
        self.assertEqual(events_of((("say", "a"), ("give", 1), ("say", "b"))), [("task", 0, 0, "least"), ("said", "a")])
        self.assertEqual(behind((("story", "q", (("give", (1, "w")), ("say", "b"))),)), [("kept", 0, (1, "w"))])

    def test_nothing_given(self):
        self.assertEqual(behind((("story", "q", ()),)), [("kept", 0, None)])
        self.assertEqual(behind((("story", "q", (("stop", "x"),)),)), [("kept", 0, None)])

    def test_a_later_give_puts_it_over(self):
        script = (("guard", (("give", 1),), None, (("give", 2), ("say", "never"))), ("say", "never"))
        self.assertEqual(behind((("story", "q", script),)), [("kept", 0, 2)])

    def test_guard(self):
        self.assertEqual(said_by((("guard", say("a"), say("b"), say("c")), ("say", "d"))), ["a", "c", "d"])
        self.assertEqual(said_by((("guard", (("fail", "x"),), say("b"), say("c")), ("say", "d"))), ["b", "c", "d"])
        self.assertEqual(said_by((("guard", (("fail", "x"),), None, say("c")), ("say", "d"))), ["c"])

    def test_if(self):
        fork = ("if", "p", say("kept"), say("else"))
        self.assertEqual(said_by((MAKE, fork, ("say", "on"))), ["else", "on"])
        self.assertEqual(said_by((MAKE, ("keep", "p", None), fork)), ["kept"])
        self.assertEqual(said_by((MAKE, ("break", "p", "w"), fork)), ["else"])
        self.assertEqual(said_by((MAKE, ("make", "q"), ("follow", "p", "q"), fork, ("keep", "q", 0), fork)), ["else", "kept"])

    def test_if_takes_nothing_and_tells_nothing(self):
        script = (MAKE, ("break", "p", "w"), ("if", "p", (), ECHO))
        self.assertEqual(behind(script), [("broken", 0, "w"), ("said", None), ("unhandled", 0)])


class Clock(unittest.TestCase):
    def test_after(self):
        loop = done((("spend", 2), ("after", 5, 1, "a", ECHO), ("after", 0, 2, "b", ECHO)))
        self.assertEqual(loop.journal(), [
            (0, "task", 0, 0, "least"), (2, "task", 2, 2, "least"), (2, "said", None), (7, "leap", 2),
            (7, "task", 1, 1, "least"), (7, "said", None),
        ])

    def test_every(self):
        loop = loop_of((("every", 5, 0, "a", (("echo",), ("spend", 12))),))
        loop.turns(4)
        self.assertEqual(loop.journal(), [
            (0, "task", 0, 0, "least"), (5, "leap", 0), (5, "task", 1, 0, "least"), (5, "said", 1),
            (17, "task", 1, 0, "least"), (17, "said", 2), (29, "task", 1, 0, "least"), (29, "said", 2),
        ])

    def test_idle(self):
        loop = done((("idle", None, "a", ECHO), ("post", 2, "b", say("line"))))
        self.assertEqual(events(loop), [
            ("task", 0, 0, "least"), ("task", 2, 2, "least"), ("said", "line"), ("idle", 1, None), ("said", None)
        ])

    def test_stop(self):
        script = (
            ("post", 0, "a", S), ("post", 2, "a", S), ("after", 3, 0, "a", S), ("every", 3, 0, "a", S), ("idle", 4, "a", S),
            ("idle", None, "a", S), ("post", 0, "b", say("b")), ("micro", say("m")), ("stop", "a"), ("echo",),
            ("stop", "a"), ("echo",),
        )
        self.assertEqual(said_by(script), [6, 0, "m", "b"])

    def test_rerank(self):
        loop = loop_of((("rerank", "a", 1), ("echo",)))
        for rank, name in ((0, "a"), (0, "b"), (1, "c"), (2, "a"), (1, "a")):
            loop.post((), rank=rank, name=name)
        loop.turn()
        self.assertEqual(loop.lines(), [["b"], ["c", "a", "a", "a"], []])
        self.assertEqual(events(loop), [("task", 0, 0, "least"), ("said", 3)])
        loop.turns()
        # In the order of ranks and lines, whichever was put first.
        self.assertEqual([row[1] for row in events(loop)[2:]], [2, 3, 1, 5, 4])


class Promises(unittest.TestCase):
    def test_make(self):
        loop = done((MAKE, ("make", "q"), MAKE))
        self.assertEqual(events(loop), [("task", 0, 0, "least")])
        self.assertEqual((loop.promise("p"), loop.promise("q")), (("open",), ("open",)))
        self.assertEqual(behind((MAKE, ("make", "q"), MAKE, ("keep", "p", 1), ("keep", "q", 2))), [("kept", 2, 1), ("kept", 1, 2)])

    def test_keep(self):
        self.assertEqual(behind((MAKE, ("keep", "p", (1, ("a",))))), [("kept", 0, (1, ("a",)))])

    def test_pass(self):
        self.assertEqual(behind((MAKE, ("pass", "p"))), [("kept", 0, None)])
        self.assertEqual(behind((MAKE, ("stop", "x"), ("pass", "p"))), [("kept", 0, 0)])
        self.assertEqual(behind((MAKE, ("guard", (("fail", "bad"),), (("pass", "p"),), ()))), [("kept", 0, "bad")])

    def test_break(self):
        self.assertEqual(behind((MAKE, ("break", "p", "bad"))), [("broken", 0, "bad"), ("unhandled", 0)])

    def test_follow(self):
        script = (MAKE, ("make", "q"), ("follow", "p", "q"), ("keep", "q", 3))
        self.assertEqual(behind(script), [("kept", 1, 3), ("kept", 0, 3)])

    def test_then(self):
        script = (MAKE, ("then", "p", "q", ECHO, S), ("keep", "p", 4))
        self.assertEqual(events_of(script)[1:], [("kept", 0, 4), ("micro", 1), ("said", 4), ("kept", 1, None)])

    def test_all(self):
        script = (MAKE, ("make", "q"), ("all", "r", ("q", "p")), ("keep", "p", 1), ("keep", "q", 2))
        self.assertEqual(events_of(script)[1:], [
            ("kept", 0, 1), ("kept", 1, 2), ("micro", 1), ("micro", 1), ("kept", 2, (2, 1))
        ])

    def test_any(self):
        script = (MAKE, ("make", "q"), ("any", "r", ("q", "p")), ("break", "p", "a"), ("keep", "q", 2))
        self.assertEqual(events_of(script)[1:], [
            ("broken", 0, "a"), ("kept", 1, 2), ("micro", 1), ("micro", 1), ("kept", 2, 2)
        ])

    def test_first(self):
        script = (MAKE, ("make", "q"), ("first", "r", ("q", "p")), ("break", "p", "a"), ("keep", "q", 2))
        self.assertEqual(events_of(script)[1:], [
            ("broken", 0, "a"), ("kept", 1, 2), ("micro", 1), ("broken", 2, "a"), ("micro", 1), ("unhandled", 2)
        ])

    def test_each(self):
        script = (MAKE, ("make", "q"), ("each", "r", ("q", "p")), ("break", "p", "a"), ("keep", "q", 2))
        self.assertEqual(events_of(script)[1:], [
            ("broken", 0, "a"), ("kept", 1, 2), ("micro", 1), ("micro", 1), ("kept", 2, (("kept", 2), ("broken", "a")))
        ])

    def test_wait(self):
        script = (MAKE, ("post", 0, "a", (("say", "other"), ("keep", "p", 7))), ("wait", "p"), ("echo",))
        self.assertEqual(events_of(script), [
            ("task", 0, 0, "least"), ("task", 1, 0, "least"), ("said", "other"), ("kept", 0, 7), ("micro", 0), ("said", 7)
        ])
        self.assertEqual(behind((MAKE, ("break", "p", "bad"), ("wait", "p"), ("echo",))), [("broken", 0, "bad"), ("fault", 0, "bad")])

    def test_wait_for_a_settled_one_is_a_micro_too(self):
        script = (MAKE, ("keep", "p", 7), ("micro", say("m")), ("wait", "p"), ("echo",))
        self.assertEqual(events_of(script)[1:], [("kept", 0, 7), ("micro", 1), ("said", "m"), ("micro", 0), ("said", 7)])

    def test_run(self):
        script = (MAKE, ("post", 1, "a", (("keep", "p", 7),)), ("run", "p"), ("echo",))
        self.assertEqual(events_of(script), [
            ("task", 0, 0, "least"), ("run", 0), ("task", 1, 1, "least"), ("kept", 0, 7), ("ran", 0), ("said", 7)
        ])

    def test_story(self):
        script = (("story", "q", (("echo",), ("give", 3))), ("say", "a"))
        self.assertEqual(events_of(script), [("task", 0, 0, "least"), ("said", "a"), ("micro", 1), ("said", None), ("kept", 0, 3)])

    def test_cancel(self):
        script = (("story", "q", S), ("cancel", "q"), ("say", "a"))
        self.assertEqual(events_of(script)[1:], [("said", "a"), ("micro", 1), ("broken", 0, "cancel"), ("unhandled", 0)])

    def test_yield(self):
        loop = loop_of((("say", "a"), ("yield", 1), ("say", "b")), say("c"))
        loop.turn()
        self.assertEqual(loop.lines(), [["work"], ["work"], []])
        loop.turns()
        self.assertEqual(events(loop), [
            ("task", 0, 0, "least"), ("said", "a"), ("task", 1, 0, "least"), ("said", "c"), ("task", 0, 1, "least"),
            ("said", "b"),
        ])

    def test_call(self):
        calls = {"ask": lambda told: (("say", "x"), ("echo",))}
        script = (("stop", "n"), ("call", "ask"), ("say", "on"))
        self.assertEqual(said_by(script, calls=calls), ["x", 0, "on"])


# Deeds with a rank that a loop of three ranks lacks.
NO_RANKS = [
    ("post", 3, "a", S), ("after", 1, 3, "a", S), ("every", 1, 4, "a", S), ("rerank", "work", 5), ("yield", 3),
]
# Deeds with names that stand for no promise; p stands for one, which is no story's.
UNKNOWN = [
    ("keep", "x", 1), ("pass", "x"), ("break", "x", "w"), ("follow", "x", "p"), ("follow", "p", "x"), ("follow", "x", "y"),
    ("follow", "x", "x"), ("then", "x", "q", S, S), ("then", "q", "q", None, None), ("all", "q", ("p", "x")),
    ("all", "q", ("q",)), ("any", "q", ("x", "p")), ("first", "q", ("p", "p", "x", "y")), ("each", "q", ("x",)),
    ("if", "x", S, S), ("wait", "x"), ("run", "x"), ("cancel", "x"), ("cancel", "p"), ("call", "x"),
]


class Wrong(unittest.TestCase):
    def fails(self, deed, reason):
        """A deed fails with the reason, nothing of it is done, and no number is used."""
        first = (MAKE, ("post", 1, "work", ()), ("guard", (deed, ("say", "never")), ECHO, ()))
        loop = loop_of(first)
        loop.turn()
        other = loop_of((MAKE, ("post", 1, "work", ())))
        other.turn()
        self.assertEqual(events(loop), [("task", 0, 0, "least"), ("said", reason)], deed)
        loop.forget()
        other.forget()
        self.assertEqual(loop, other, deed)
        self.assertEqual(loop.post(()), 2)

    def test_rank(self):
        for deed in NO_RANKS:
            self.fails(deed, "rank")

    def test_unknown(self):
        for deed in UNKNOWN:
            self.fails(deed, "unknown")

    def test_faults_without_a_guard(self):
        for deed in NO_RANKS:
            self.assertEqual(events_of((deed, ("say", "never"))), [("task", 0, 0, "least"), ("fault", 0, "rank")])
        for deed in UNKNOWN:
            self.assertEqual(behind((MAKE, deed, ("say", "never"))), [("fault", 0, "unknown")])

    def test_all_names_are_tried_ahead_of_taking(self):
        script = (MAKE, ("break", "p", "w"), ("guard", (("all", "q", ("p", "x")),), (), ()))
        self.assertEqual(behind(script), [("broken", 0, "w"), ("unhandled", 0)])

    def test_ranks_that_other_loops_have(self):
        for ranks in range(1, 7):
            for deed in (("post", 3, "a", S), ("after", 0, 3, "a", S), ("yield", 3), ("rerank", "x", 3)):
                loop = loop_of((deed,), ranks=ranks)
                loop.turn()
                self.assertEqual(("fault", 0, "rank") in events(loop), ranks < 4, deed)

    def test_inner_scripts_are_looked_at_when_they_are_done(self):
        loop = done((("post", 0, "a", (("post", 5, "b", S), ("echo",))), ("say", "on")))
        self.assertEqual(events(loop), [
            ("task", 0, 0, "least"), ("said", "on"), ("task", 1, 0, "least"), ("fault", 1, "rank")
        ])

    def test_a_name_made_behind_the_deed(self):
        script = (("guard", (("then", "q", "q", S, S),), (), ()), ("all", "q", ()), ("then", "q", "q", ECHO, None))
        self.assertEqual(behind(script), [("kept", 0, ()), ("said", ()), ("kept", 1, None)])


class Numbers(unittest.TestCase):
    def test_which_deeds_get_numbers(self):
        script = (
            MAKE, ("post", 1, "a", ()), ("micro", ()), ("after", 1000, 0, "a", ()), ("every", 1000, 0, "a", ()),
            ("idle", None, "a", ()), ("then", "p", "q", None, None), ("all", "q", ()), ("any", "q", ()),
            ("first", "q", ()), ("each", "q", ()), ("story", "q", ()),
        )
        for many in range(len(script)):
            loop = loop_of(script[:many + 1])
            loop.turn()
            self.assertEqual(loop.post(()), many + 1, script[many])

    def test_which_get_none(self):
        without = [
            ("say", "a"), ("echo",), ("spend", 1), ("stop", "a"), ("rerank", "a", 0), ("make", "q"), ("keep", "p", 1),
            ("pass", "p"), ("break", "p", "w"), ("follow", "p", "p"), ("give", 1), ("fail", "w"), ("guard", (), None, ()),
            ("if", "p", (), ()), ("wait", "p"), ("run", "p"), ("cancel", "s"), ("yield", 0), ("call", "a"),
        ]
        for deed in without:
            loop = loop_of((MAKE, ("story", "s", ()), deed), calls={"a": lambda told: ()})
            loop.turn()
            self.assertEqual(loop.post(()), 2, deed)

    def test_all_deeds_are_here(self):
        self.assertEqual(len(DEEDS), 30)

    def test_all_works_of_one_have_its_number(self):
        loop = Loop()
        loop.post((("every", 2, 0, "a", ()), ("make", "p"), ("all", "q", ("p", "p", "p")), ("keep", "p", 0)))
        told = [row[2] for rows in steps(loop, 4) for row in rows if row[1] in ("task", "micro")]
        self.assertEqual(told, [0, 2, 2, 2, 1, 1, 1])

    def test_the_rest_has_its_works(self):
        script = (MAKE, ("keep", "p", 1), ("wait", "p"), ("yield", 1), ("wait", "p"), ("yield", 0))
        self.assertEqual([row for row in events_of((), script) if row[0] != "kept"], [
            ("task", 0, 0, "least"), ("task", 1, 0, "least"), ("micro", 1), ("task", 1, 1, "least"), ("micro", 1),
            ("task", 1, 0, "least"),
        ])


if __name__ == "__main__":
    unittest.main()
