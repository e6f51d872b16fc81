"""Guards within guards [8, 9]."""

import itertools
import unittest

from loopcases import ECHO, MAKE, behind, done, events, loop_of, said, said_by, say

BAD = (("fail", "bad"),)
WORSE = (("fail", "worse"),)
WORST = (("fail", "worst"),)
GIVE = (("give", 1),)


class Faults(unittest.TestCase):
    def test_the_second_is_told_the_reason(self):
        script = (("stop", "x"), ("guard", BAD, ECHO, ECHO), ("echo",))
        self.assertEqual(said_by(script), ["bad", "bad", "bad"])

    def test_without_a_second_nothing_is_told(self):
        script = (("stop", "x"), ("guard", BAD, None, ECHO), ("echo",))
        self.assertEqual(behind(script), [("said", 0), ("fault", 0, "bad")])

    def test_an_empty_second_takes_it(self):
        self.assertEqual(said_by((("guard", BAD, (), ()), ("echo",))), ["bad"])

    def test_fails_again_behind_the_last_part(self):
        self.assertEqual(behind((("guard", BAD, None, say("last")),)), [("said", "last"), ("fault", 0, "bad")])

    def test_a_fault_in_the_second(self):
        script = (("guard", BAD, WORSE, say("last")), ("say", "never"))
        self.assertEqual(behind(script), [("said", "last"), ("fault", 0, "worse")])

    def test_a_fault_in_the_last(self):
        for first, second in itertools.product(((), BAD), (None, (), WORSE)):
            script = (("guard", first, second, (*say("last"), *WORST, *say("never"))), ("say", "never"))
            self.assertEqual(behind(script), [("said", "last"), ("fault", 0, "worst")])

    def test_outward(self):
        inner = (("guard", BAD, None, say("one")),)
        self.assertEqual(said_by((("guard", inner, ECHO, say("two")), ("say", "on"))), ["one", "bad", "two", "on"])
        inner = (("guard", BAD, WORSE, WORST),)
        self.assertEqual(said_by((("guard", inner, ECHO, say("two")), ("say", "on"))), ["worst", "two", "on"])

    def test_a_guard_in_a_second_and_in_a_last_part(self):
        inner = (("guard", WORSE, None, say("in")),)
        self.assertEqual(behind((("guard", BAD, inner, say("out")),)), [("said", "in"), ("said", "out"), ("fault", 0, "worse")])
        self.assertEqual(behind((("guard", BAD, None, inner),)), [("said", "in"), ("fault", 0, "worse")])
        taken = (("guard", WORSE, ECHO, say("in")),)
        self.assertEqual(behind((("guard", BAD, None, taken),)), [("said", "worse"), ("said", "in"), ("fault", 0, "bad")])

    def test_a_guard_takes_once(self):
        script = (("guard", BAD, (), ()), ("say", "on"), ("fail", "later"))
        self.assertEqual(behind(script), [("said", "on"), ("fault", 0, "later")])

    def test_a_fault_breaks_the_promise(self):
        script = (("story", "q", (("guard", BAD, None, say("last")),)),)
        self.assertEqual(behind(script), [("said", "last"), ("broken", 0, "bad"), ("unhandled", 0)])

    def test_empty_parts(self):
        for first, second in itertools.product(((), (("guard", (), None, ()),)), (None, ())):
            self.assertEqual(said_by((("guard", first, second, ()), ("say", "on"))), ["on"])

    def test_tuples_are_reasons_too(self):
        script = (("any", "q", ()), ("guard", (("wait", "q"),), ECHO, ()), ("echo",), ("wait", "q"))
        self.assertEqual(behind(script), [("broken", 0, ()), ("said", ()), ("said", ()), ("fault", 0, ())])


class Gives(unittest.TestCase):
    def outcome(self, *script):
        """What a story of this script says, and its promise."""
        loop = done((("story", "q", script),))
        return said(loop), loop.promise("q")

    def test_in_the_part(self):
        script = ("guard", (*GIVE, *say("never")), say("never"), say("last"))
        self.assertEqual(self.outcome(script, *say("never")), (["last"], ("kept", 1)))

    def test_in_the_second(self):
        script = ("guard", BAD, (*GIVE, *say("never")), say("last"))
        self.assertEqual(self.outcome(script, *say("never")), (["last"], ("kept", 1)))

    def test_in_the_last(self):
        for first, second in itertools.product(((), BAD, (("give", 0),)), (None, (), WORSE)):
            script = ("guard", first, second, (*say("last"), *GIVE, *say("never")))
            self.assertEqual(self.outcome(script, *say("never")), (["last"], ("kept", 1)))

    def test_all_last_parts_around(self):
        inner = (("guard", (("guard", GIVE, say("no"), say("a")), *say("no")), say("no"), say("b")), *say("no"))
        self.assertEqual(self.outcome(("guard", inner, say("no"), say("c"))), (["a", "b", "c"], ("kept", 1)))

    def test_those_that_have_begun_are_left(self):
        inner = (("guard", (), None, (*say("a"), ("guard", GIVE, None, say("b")), *say("no"))), *say("no"))
        self.assertEqual(self.outcome(("guard", inner, None, say("c")), *say("no")), (["a", "b", "c"], ("kept", 1)))

    def test_a_fault_under_way_is_left(self):
        inner = (("guard", BAD, None, GIVE), *say("no"))
        self.assertEqual(self.outcome(("guard", inner, say("no"), say("c")), *say("no")), (["c"], ("kept", 1)))

    def test_a_last_part_that_fails_behind_it(self):
        inner = (("guard", GIVE, say("no"), (*say("a"), *BAD)), *say("no"))
        # No guard takes it.
        self.assertEqual(self.outcome(*inner), (["a"], ("broken", "bad")))
        self.assertEqual(self.outcome(("guard", inner, None, say("c")), *say("no")), (["a", "c"], ("broken", "bad")))
        # An outer second part takes it; what was given stays given, and the rest is left.
        script = ("guard", inner, ECHO, say("c"))
        self.assertEqual(self.outcome(script, *say("no")), (["a", "bad", "c"], ("kept", 1)))

    def test_that_second_part_may_fail_or_give(self):
        inner = (("guard", GIVE, None, BAD),)
        self.assertEqual(self.outcome(("guard", inner, WORSE, say("c")), *say("no")), (["c"], ("broken", "worse")))
        self.assertEqual(self.outcome(("guard", inner, (("give", 2),), say("c")), *say("no")), (["c"], ("kept", 2)))

    def test_guards_that_begin_behind_it_go_on_as_ever(self):
        last = (("guard", BAD, ECHO, say("x")), ("say", "y"))
        self.assertEqual(self.outcome(("guard", GIVE, None, last), *say("no")), (["bad", "x", "y"], ("kept", 1)))

    def test_given_and_then_failed(self):
        script = ("guard", GIVE, None, BAD)
        self.assertEqual(behind((script,)), [("fault", 0, "bad")])


class Stays(unittest.TestCase):
    """Runs, waits and yields within guards: the last part comes behind them, and just once."""

    def parts(self, at, deed):
        """A guard with this deed in its part, second or last."""
        parts = [say("part"), say("second"), say("last")]
        if at > 0:
            parts[0] = (*parts[0], *BAD)
        parts[at] = (("say", "ahead"), deed, *parts[at])
        return (MAKE, ("micro", (("keep", "p", 7),)), ("guard", *parts), ("say", "on"))

    def test_in_each_part(self):
        wanted = [
            ["ahead", "part", "last", "on"], ["part", "ahead", "second", "last", "on"],
            ["part", "second", "ahead", "last", "on"],
        ]
        for at in range(3):
            for deed in (("wait", "p"), ("yield", 1), ("run", "p")):
                self.assertEqual(said_by(self.parts(at, deed)), wanted[at], deed)

    def test_broken_promises(self):
        for deed in (("wait", "p"), ("run", "p")):
            script = (MAKE, ("micro", (("break", "p", "bad"),)), ("guard", (deed, *say("no")), ECHO, say("last")), ("say", "on"))
            self.assertEqual(said_by(script), ["bad", "last", "on"])
            script = (MAKE, ("micro", (("break", "p", "bad"),)), ("guard", (deed, *say("no")), None, say("last")), ("say", "on"))
            self.assertEqual([row for row in behind(script) if row[0] in ("said", "fault")], [("said", "last"), ("fault", 0, "bad")])

    def test_a_fault_behind_a_stay_in_the_last_part(self):
        # The elder fault waits behind the last part, over waits and yields.
        script = (MAKE, ("keep", "p", 7), ("guard", BAD, None, (("wait", "p"), ("yield", 2), ("echo",))))
        loop = loop_of(script)
        self.assertEqual(loop.turns(), 2)
        self.assertEqual([row for row in events(loop) if row[0] in ("said", "fault")], [("said", 7), ("fault", 0, "bad")])

    def test_a_give_behind_a_stay(self):
        inner = (MAKE, ("keep", "p", 7), ("guard", (("wait", "p"), ("give", 3)), None, (("yield", 1), ("say", "last"))))
        loop = done((("story", "q", (*inner, *say("no"))),))
        self.assertEqual((said(loop), loop.promise("q")), (["last"], ("kept", 3)))

    def test_given_and_last_parts_that_wait(self):
        inner = (("guard", (("give", 3),), None, (("yield", 1), ("fail", "bad"))), *say("no"))
        script = (("guard", inner, (("yield", 1), ("echo",)), (("yield", 1), *say("last"))), *say("no"))
        loop = done((("story", "q", script),))
        self.assertEqual((said(loop), loop.promise("q")), (["bad", "last"], ("kept", 3)))

    def test_deep_and_stuck_in_guards(self):
        script = (MAKE, ("guard", (("run", "p"),), ECHO, say("last")), ("say", "on"))
        self.assertEqual(said_by(script), ["stuck", "last", "on"])
        script = (MAKE, ("guard", (("run", "p"),), None, say("last")), ("say", "on"))
        self.assertEqual(behind(script), [("run", 0), ("stuck", 0), ("said", "last"), ("fault", 0, "stuck")])


if __name__ == "__main__":
    unittest.main()
