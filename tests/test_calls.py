"""Defs that are asked, and what they raise [20]."""

import unittest

from loopcases import ECHO, MAKE, behind, done, events, loop_of, said, said_by, say
from rankloop.errors import Busy, NoPromise, NoScript
from rankloop.loops import Loop
from samples import NO_SCRIPTS

ASK = ("call", "ask")


def raiser(error):
    """A def that raises this error."""
    def ask(told):
        raise error
    return ask


class Told(unittest.TestCase):
    def test_a_script_in_the_place_of_the_deed(self):
        self.assertEqual(said_by((*say("a"), ASK, *say("c")), calls={"ask": lambda told: say("b")}), ["a", "b", "c"])
        self.assertEqual(said_by((*say("a"), ASK, *say("c")), calls={"ask": lambda told: ()}), ["a", "c"])

    def test_what_it_is_asked_with(self):
        asked = []

        def ask(told):
            asked.append(told)
            return ()

        script = (ASK, ("stop", "x"), ASK, MAKE, ("keep", "p", (1, "w")), ("wait", "p"), ASK, ("guard", (("fail", "bad"),), (ASK,), ()))
        done(script, calls={"ask": ask})
        self.assertEqual(asked, [None, 0, (1, "w"), "bad"])

    def test_asked_by_place(self):
        asked = []

        def ask(*parts, **more):
            asked.append((parts, more))
            return ()

        done((ASK,), calls={"ask": ask})
        self.assertEqual(asked, [((None,), {})])

    def test_its_script_may_give_fail_wait_and_call(self):
        calls = {"ask": lambda told: (("give", 5), ("say", "never"))}
        self.assertEqual(behind((("story", "q", (ASK, ("say", "never"))),), calls=calls), [("kept", 0, 5)])
        calls = {"ask": lambda told: (("fail", "bad"), ("say", "never"))}
        self.assertEqual(said_by((("guard", (ASK, ("say", "never")), ECHO, ()),), calls=calls), ["bad"])
        calls = {"ask": lambda told: (("yield", 1), ("echo",), ("call", "other")), "other": lambda told: say("o")}
        self.assertEqual(said_by((("stop", "x"), ASK, ("say", "on")), calls=calls), [0, "o", "on"])

    def test_no_script(self):
        for thing in (None, *NO_SCRIPTS):
            loop = done((("guard", (ASK, ("say", "never")), ECHO, ()),), calls={"ask": lambda told, thing=thing: thing})
            self.assertEqual(said(loop), ["call"])
        self.assertEqual(behind((ASK,), calls={"ask": lambda told: 5}), [("fault", 0, "call")])

    def test_missing(self):
        self.assertEqual(said_by((("guard", (ASK,), ECHO, ()),)), ["unknown"])
        self.assertEqual(behind((ASK,), calls={"other": lambda told: ()}), [("fault", 0, "unknown")])

    def test_each_work_asks_anew(self):
        asked = []

        def ask(told):
            asked.append(told)
            return say("a") * len(asked)

        loop = done((ASK,), (ASK, ASK), calls={"ask": ask})
        self.assertEqual(said(loop), ["a"] * 6)

    def test_copies_have_the_same_defs(self):
        loop = loop_of((ASK,), calls={"ask": lambda told: say("a")})
        twin = loop.copy()
        twin.turns()
        loop.turns()
        self.assertEqual((said(twin), said(loop)), (["a"], ["a"]))


class BusyLoops(unittest.TestCase):
    def test_refused_while_a_def_is_asked(self):
        loop = Loop(calls={"ask": lambda told: ask()})
        tries = [
            loop.turn, loop.turns, lambda: loop.turns(0), lambda: loop.turns(most=1), lambda: loop.post(()), lambda: loop.post((), rank=1),
            loop.copy, loop.forget, lambda: str(loop), lambda: f"{loop}",
            # Busy goes ahead of what else is wrong.
            lambda: loop.post(None), lambda: loop.post((), rank=9),
        ]
        refused = []

        def ask():
            before = loop.journal(), loop.lines(), loop.passes()
            for attempt in tries:
                try:
                    attempt()
                except Busy:
                    refused.append(attempt)
            self.assertEqual((loop.journal(), loop.lines(), loop.passes()), before)
            return say("b")

        loop.post((("say", "a"), ASK, ("say", "c")))
        loop.post((), name="next")
        self.assertEqual(loop.turns(), 2)
        self.assertEqual(len(refused), len(tries))
        self.assertEqual(said(loop), ["a", "b", "c"])
        self.assertEqual(loop.post(()), 2)

    def test_all_else_is_answered(self):
        told = []
        loop = Loop(calls={"ask": lambda said_last: ask()})
        other = Loop()

        def ask():
            told.append((loop.is_busy(), loop.now(), loop.depth(), loop.journal(), loop.promise("p"), loop.lines(), loop.passes(),
                         len(loop), loop == loop, loop == other, loop == 3))
            with self.assertRaises(NoPromise):
                loop.promise("x")
            return ()

        loop.post((MAKE, ("run", "p")))
        loop.post((("spend", 4), ASK), name="asks")
        loop.post((("keep", "p", 1),), name="last", rank=1)
        self.assertIs(loop.is_busy(), False)
        loop.turns()
        journal = [(0, "task", 0, 0, "least"), (0, "run", 0), (0, "task", 1, 0, "least")]
        self.assertEqual(told, [
            (True, 4, 1, journal, ("open",), [[], ["last"], []], [None, 2, None], 1, True, False, False)
        ])
        self.assertIs(loop.is_busy(), False)

    def test_other_loops_go_on(self):
        inner = loop_of(say("in"))
        loop = loop_of((ASK, ("say", "out")), calls={"ask": lambda told: say("a") * inner.turns()})
        loop.turns()
        self.assertEqual((said(inner), said(loop)), (["in"], ["a", "out"]))

    def test_a_refusal_that_the_def_lets_out(self):
        loop = Loop(calls={"ask": lambda told: loop.turn()})
        loop.post((ASK,))
        with self.assertRaises(Busy):
            loop.turn()
        self.assertIs(loop.is_busy(), False)
        self.assertIs(loop.turn(), True)
        self.assertEqual(events(loop)[-1], ("fault", 0, "out"))


class Raised(unittest.TestCase):
    def broken_off(self, *scripts, error=None, **parts):
        """A loop in which a def has raised an error."""
        error = ValueError("odd") if error is None else error
        loop = loop_of(*scripts, calls={"ask": raiser(error), "fine": lambda told: say("fine")}, **parts)
        with self.assertRaises(error.__class__) as caught:
            loop.turns()
        self.assertIs(caught.exception, error)
        self.assertIs(loop.is_busy(), False)
        return loop

    def test_errors_of_every_kind(self):
        for error in (ValueError("x"), KeyError("x"), RuntimeError(), StopIteration(), ZeroDivisionError(), TypeError(), KeyboardInterrupt(),
                      NoScript(1), NoPromise("p"), Busy(), GeneratorExit()):
            for ask in (lambda loop: loop.turn(), lambda loop: loop.turns(), lambda loop: loop.turns(most=1)):
                loop = loop_of((("say", "a"), ASK, ("say", "never")), calls={"ask": raiser(error)})
                with self.assertRaises(error.__class__) as caught:
                    ask(loop)
                self.assertIs(caught.exception, error)
                self.assertEqual(events(loop), [("task", 0, 0, "least"), ("said", "a")])
                self.assertIs(loop.is_busy(), False)
                self.assertIs(loop.turn(), True)
                self.assertEqual(events(loop)[2:], [("fault", 0, "out")])
                self.assertIs(loop.turn(), False)

    def test_nothing_happens_until_the_next_turn(self):
        loop = self.broken_off((("guard", (ASK,), ECHO, say("last")),), say("next"))
        self.assertEqual(loop.turns(0), 0)
        self.assertEqual(events(loop), [("task", 0, 0, "least")])
        self.assertEqual(loop.lines(), [["work"], [], []])
        self.assertEqual(loop.post(()), 2)

    def test_ahead_of_the_turn(self):
        loop = self.broken_off((("guard", (ASK, ("say", "never")), ECHO, say("last")), ("say", "on")), say("next"), say("later"))
        self.assertIs(loop.turn(), True)
        self.assertEqual(events(loop), [
            ("task", 0, 0, "least"), ("said", "out"), ("said", "last"), ("said", "on"), ("task", 1, 0, "least"), ("said", "next")
        ])

    def test_only_what_stood_ahead(self):
        loop = self.broken_off((ASK,))
        self.assertEqual(loop.turns(), 1)
        self.assertEqual(events(loop), [("task", 0, 0, "least"), ("fault", 0, "out")])

    def test_counts(self):
        loop = self.broken_off((ASK,), (), ())
        self.assertEqual(loop.turns(), 2)
        loop = self.broken_off((ASK,), (), ())
        self.assertEqual(loop.turns(1), 1)
        self.assertEqual(len(loop), 1)

    def test_its_micros_come_ahead_too(self):
        loop = self.broken_off((MAKE, ("break", "p", "bad"), ("micro", say("m")), ASK), say("next"))
        loop.turn()
        self.assertEqual(events(loop)[2:], [
            ("fault", 0, "out"), ("micro", 2), ("said", "m"), ("unhandled", 0), ("task", 1, 0, "least"), ("said", "next")
        ])

    def test_in_a_micro(self):
        loop = self.broken_off((("micro", (ASK,)), ("micro", say("m"))), say("next"))
        self.assertEqual(events(loop), [("task", 0, 0, "least"), ("micro", 2)])
        loop.turn()
        self.assertEqual(events(loop)[2:], [
            ("fault", 2, "out"), ("micro", 3), ("said", "m"), ("task", 1, 0, "least"), ("said", "next")
        ])

    def test_in_a_run(self):
        loop = self.broken_off((MAKE, ("run", "p"), ("echo",)), (("guard", (ASK,), (("pass", "p"),), ()),), say("next"))
        self.assertEqual(loop.depth(), 1)
        loop.turn()
        self.assertEqual(events(loop)[3:], [
            ("kept", 0, "out"), ("ran", 0), ("said", "out"), ("task", 2, 0, "least"), ("said", "next")
        ])
        loop = self.broken_off((MAKE, ("run", "p")), (ASK,))
        self.assertEqual(loop.turns(), 1)
        self.assertEqual(events(loop)[3:], [("fault", 1, "out"), ("stuck", 0), ("fault", 0, "stuck")])

    def test_in_a_flood(self):
        loop = self.broken_off((("micro", ()), ("micro", (ASK,)), ("micro", say("a")), ("micro", say("b"))), flood=3)
        self.assertEqual(loop.turns(), 1)
        self.assertEqual(events(loop), [
            ("task", 0, 0, "least"), ("micro", 1), ("micro", 2), ("fault", 2, "out"), ("micro", 3), ("said", "a"), ("flood", 1),
            ("micro", 4), ("said", "b"),
        ])

    def test_in_a_turn_that_only_does_micros(self):
        loop = loop_of((("micro", ()), ("micro", (ASK,)), ("micro", say("a"))), flood=1, calls={"ask": raiser(ValueError())})
        loop.turn()
        with self.assertRaises(ValueError):
            loop.turn()
        self.assertEqual(loop.turns(), 1)
        self.assertEqual(events(loop)[-4:], [("fault", 2, "out"), ("flood", 1), ("micro", 3), ("said", "a")])

    def test_again_and_again(self):
        loop = self.broken_off((("guard", (ASK,), (ASK,), (ASK,)),), say("next"))
        for _ in range(2):
            with self.assertRaises(ValueError):
                loop.turn()
            self.assertIs(loop.is_busy(), False)
        self.assertEqual(events(loop), [("task", 0, 0, "least")])
        self.assertEqual(loop.turns(), 1)
        self.assertEqual(events(loop)[1:], [("fault", 0, "out"), ("task", 1, 0, "least"), ("said", "next")])

    def test_a_promise_for_it(self):
        loop = self.broken_off((("story", "q", (ASK,)), ("then", "q", "r", (), ECHO)))
        loop.turns()
        self.assertEqual(said(loop), ["out"])
        self.assertEqual(loop.promise("q"), ("broken", "out"))

    def test_cancelled_behind_it(self):
        loop = self.broken_off((("story", "q", (("guard", (ASK,), (), ()), ("guard", (("yield", 0),), ECHO, ()))),))
        loop.turns()
        self.assertEqual(loop.promise("q"), ("kept", None))

    def test_forget_and_post_amid(self):
        loop = self.broken_off((ASK,))
        loop.forget()
        loop.post(say("b"))
        self.assertEqual(loop.turns(), 1)
        self.assertEqual(events(loop), [("fault", 0, "out"), ("task", 1, 0, "least"), ("said", "b")])

    def test_copies_amid(self):
        loop = self.broken_off((("micro", say("m")), ("guard", (ASK,), (("call", "fine"),), say("last"))), say("next"))
        twin = loop.copy()
        self.assertEqual(twin, loop)
        self.assertEqual(str(twin), str(loop))
        twin.turns()
        self.assertNotEqual(twin, loop)
        self.assertEqual(events(loop), [("task", 0, 0, "least")])
        loop.turns()
        self.assertEqual(twin, loop)
        self.assertEqual(said(loop), ["fine", "last", "m", "next"])

    def test_a_broken_off_loop_is_unlike_one_that_is_not(self):
        loop = self.broken_off((ASK,))
        other = done(())
        self.assertEqual(loop.journal(), other.journal())
        self.assertNotEqual(loop, other)
        self.assertNotEqual(str(loop), str(other))


if __name__ == "__main__":
    unittest.main()
