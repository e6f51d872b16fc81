"""Stories, cancel and yield [19]."""

import unittest

from loopcases import ECHO, MAKE, behind, done, events, events_of, loop_of, said, said_by, say

TAKE = ("then", "q", "z", (), ())
CANCEL = ("cancel", "q")


class Stories(unittest.TestCase):
    def test_outcomes(self):
        self.assertEqual(behind((("story", "q", (("give", 4),)), TAKE))[0], ("kept", 0, 4))
        self.assertEqual(behind((("story", "q", (("fail", "x"),)), TAKE))[0], ("broken", 0, "x"))

    def test_over_waits_and_yields(self):
        story = (MAKE, ("post", 0, "x", (("keep", "p", 7),)), ("wait", "p"), ("echo",), ("yield", 2), ("echo",), ("give", 9))
        loop = done((("story", "q", story),))
        self.assertEqual(events(loop), [
            ("task", 0, 0, "least"), ("micro", 1), ("task", 2, 0, "least"), ("kept", 1, 7), ("micro", 1), ("said", 7),
            ("task", 1, 2, "least"), ("said", 7), ("kept", 0, 9),
        ])

    def test_names_behind_a_yield(self):
        loop = loop_of((("story", "q", (("yield", 1), ("yield", 2))), ("yield", 0)))
        loop.turn()
        self.assertEqual(loop.lines(), [["work"], [None], []])
        loop.turns(2)
        self.assertEqual(loop.lines(), [[], [], [None]])
        loop = loop_of((("micro", (("yield", 1),)), ("after", 0, 0, "t", (("yield", 2),)), ("idle", None, "i", (("yield", 2),))))
        loop.turns(2)
        self.assertEqual(loop.lines(), [[], [None], ["t"]])
        loop.turns(3)
        self.assertEqual(loop.lines(), [[], [], ["i"]])

    def test_a_name_over_a_wait(self):
        loop = loop_of((MAKE, ("keep", "p", 1), ("wait", "p"), ("yield", 1)))
        loop.turn()
        self.assertEqual(loop.lines(), [[], ["work"], []])

    def test_yield_begins_with_0_passes(self):
        loop = loop_of((("yield", 1),), (), (), patience=(None, 9, 9))
        loop.turn()
        self.assertEqual(loop.passes(), [0, 0, None])
        loop.turn()
        self.assertEqual(loop.passes(), [0, 1, None])

    def test_yield_to_its_own_line(self):
        self.assertEqual(said_by((("say", "a"), ("yield", 0), ("say", "c")), say("b")), ["a", "b", "c"])

    def test_yield_to_a_rank_that_is_not_there(self):
        script = (("guard", (("yield", 3), ("say", "never")), ECHO, ()), ("say", "on"))
        self.assertEqual(said_by(script), ["rank", "on"])
        self.assertEqual(behind((("story", "q", (("yield", 5),)), TAKE))[0], ("broken", 0, "rank"))

    def test_told_stays_over_a_yield(self):
        self.assertEqual(said_by((("stop", "x"), ("yield", 1), ("echo",))), [0])


class Cancel(unittest.TestCase):
    def test_ahead_of_its_begin(self):
        story = (("guard", say("never"), say("never"), say("never")),)
        self.assertEqual(events_of((("story", "q", story), CANCEL, TAKE))[1:], [
            ("micro", 1), ("broken", 0, "cancel"), ("micro", 2), ("kept", 1, None)
        ])

    def test_at_a_wait_of_an_open_promise(self):
        story = (("guard", (("wait", "p"), ("say", "never")), ECHO, say("last")), ("say", "on"), ("give", 3))
        script = (MAKE, ("story", "q", story), ("post", 0, "x", (CANCEL, ("say", "now"), ("keep", "p", 1))))
        self.assertEqual(events_of(script)[1:], [
            ("micro", 1), ("task", 2, 0, "least"), ("said", "now"), ("kept", 0, 1), ("micro", 1), ("said", "cancel"), ("said", "last"),
            ("said", "on"), ("kept", 1, 3),
        ])

    def test_the_settling_brings_it_no_more(self):
        story = (("wait", "p"), ("say", "never"))
        script = (MAKE, ("story", "q", story), TAKE, ("post", 0, "x", (CANCEL,)), ("post", 0, "x", (("break", "p", "bad"),)))
        rows = events_of(script)
        self.assertEqual(rows.count(("micro", 1)), 2)
        self.assertNotIn(("said", "never"), rows)
        # It was taken all the same.
        self.assertNotIn(("unhandled", 0), rows)

    def test_other_takers_stay(self):
        script = (MAKE, ("then", "p", "a", say("a"), None), ("story", "q", (("wait", "p"),)), ("story", "r", (("wait", "p"), ("say", "r"))),
                  TAKE, ("micro", (("then", "p", "b", say("b"), None),)), ("post", 0, "x", (CANCEL, ("keep", "p", 1))))
        loop = done(script)
        self.assertEqual(said(loop), ["a", "r", "b"])
        self.assertEqual(loop.promise("q"), ("broken", "cancel"))

    def test_at_a_wait_of_one_that_follows(self):
        script = (MAKE, ("make", "o"), ("follow", "p", "o"), ("story", "q", (("wait", "p"), ("say", "never"))), TAKE,
                  ("post", 0, "x", (CANCEL, ("keep", "o", 1))))
        loop = done(script)
        self.assertEqual((said(loop), loop.promise("q")), ([], ("broken", "cancel")))

    def test_at_a_wait_of_a_settled_promise(self):
        # Told the worth already, where it was kept.
        for deed, told in ((("keep", "p", 7), 7), (("break", "p", "bad"), None)):
            story = (("guard", (("wait", "p"), ("say", "never")), None, ECHO),)
            script = (MAKE, deed, ("story", "q", story), ("micro", (CANCEL, ("say", "now"))), TAKE)
            self.assertEqual([row for row in behind(script) if row[0] in ("said", "broken")][-3:], [
                ("said", "now"), ("said", told), ("broken", 1, "cancel")
            ])

    def test_settled_while_it_waits_and_then_cancelled(self):
        story = (("wait", "p"), ("say", "never"))
        script = (MAKE, ("story", "q", story), TAKE, ("post", 0, "x", (("keep", "p", 1), CANCEL, ("say", "now"))))
        self.assertEqual(events_of(script)[3:], [
            ("kept", 0, 1), ("said", "now"), ("micro", 1), ("broken", 1, "cancel"), ("micro", 2), ("kept", 2, None)
        ])

    def test_behind_a_yield(self):
        story = (("guard", (("yield", 1), ("say", "never")), ECHO, say("last")),)
        script = (("story", "q", story), ("post", 0, "x", (CANCEL, ("say", "now"))))
        self.assertEqual(events_of(script)[1:], [
            ("micro", 1), ("task", 2, 0, "least"), ("said", "now"), ("task", 1, 1, "least"), ("said", "cancel"), ("said", "last"),
            ("kept", 0, None),
        ])

    def test_while_being_done(self):
        for deed in (("wait", "p"), ("yield", 1), ("wait", "x"), ("yield", 5)):
            story = (CANCEL, ("say", "a"), ("guard", (deed, ("say", "never")), ECHO, ()), ("say", "on"), deed, ("say", "b"))
            script = (MAKE, ("keep", "p", 1), ("story", "q", story), TAKE)
            self.assertEqual(said_by(script)[:3], ["a", "cancel", "on"], deed)

    def test_in_the_place_of_the_wait(self):
        # Nothing of the wait is done: the promise isn't taken.
        script = (MAKE, ("break", "p", "bad"), ("story", "q", (CANCEL, ("wait", "p"))), TAKE)
        self.assertEqual(behind(script), [
            ("broken", 0, "bad"), ("broken", 1, "cancel"), ("kept", 2, None), ("unhandled", 0)
        ])

    def test_or_never(self):
        script = (("story", "q", (CANCEL, ("say", "a"), ("give", 2))), TAKE)
        self.assertEqual(behind(script), [("said", "a"), ("kept", 0, 2), ("kept", 1, None)])

    def test_in_a_run(self):
        story = (MAKE, ("post", 0, "x", (CANCEL, ("keep", "p", 5))), ("run", "p"), ("echo",), ("guard", (("yield", 0),), ECHO, ()))
        script = (("story", "q", story), TAKE)
        self.assertEqual(behind(script), [
            ("run", 2), ("kept", 2, 5), ("ran", 2), ("said", 5), ("said", "cancel"), ("kept", 0, None), ("kept", 1, None)
        ])

    def test_in_a_run_that_is_stuck(self):
        story = (MAKE, ("post", 0, "x", (CANCEL,)), ("guard", (("run", "p"),), ECHO, ()), ("give", 1))
        self.assertEqual([row for row in behind((("story", "q", story),)) if row[0] in ("said", "kept")], [("said", "stuck"), ("kept", 0, 1)])

    def test_behind_its_end(self):
        script = (("story", "q", (("give", 2),)), ("post", 0, "x", (CANCEL, ("say", "a"))))
        self.assertEqual(behind(script), [("kept", 0, 2), ("said", "a")])
        script = (("story", "q", (("fail", "x"),)), TAKE, ("post", 0, "x", (CANCEL, ("say", "a"))))
        self.assertEqual(behind(script)[-1], ("said", "a"))

    def test_twice(self):
        story = (("guard", (("wait", "p"),), ECHO, ()), ("wait", "p"), ("echo",))
        script = (MAKE, ("story", "q", story), ("post", 0, "x", (CANCEL, CANCEL)), ("post", 0, "x", (CANCEL,)),
                  ("post", 0, "x", (("keep", "p", 8),)))
        self.assertEqual(said_by(script), ["cancel", 8])

    def test_again_behind_the_fault(self):
        story = (("guard", (("wait", "p"),), ECHO, ()), ("wait", "p"), ("echo",))
        script = (MAKE, ("story", "q", story), ("post", 0, "x", (CANCEL,)), ("post", 0, "x", (CANCEL,)), ("post", 0, "x", (CANCEL,)),
                  ("post", 0, "x", (("keep", "p", 8),)))
        self.assertEqual(said_by(script), ["cancel", 8])

    def test_twice_while_being_done_and_behind_a_yield(self):
        story = (CANCEL, CANCEL, ("guard", (("yield", 0),), ECHO, ()), CANCEL, ("yield", 0), ("say", "on"), ("wait", "p"), ("echo",))
        script = (MAKE, ("keep", "p", 8), ("story", "q", story))
        self.assertEqual(said_by(script), ["cancel", "on", 8])

    def test_a_second_part_may_go_on(self):
        story = (("guard", (("wait", "p"),), (("yield", 1), ("wait", "p"), ("echo",)), say("last")), ("give", 1))
        script = (MAKE, ("story", "q", story), ("post", 0, "x", (CANCEL,)), ("post", 2, "x", (("keep", "p", 8),)))
        loop = done(script)
        self.assertEqual((said(loop), loop.promise("q")), ([8, "last"], ("kept", 1)))

    def test_settled_otherwise_is_no_end(self):
        script = (MAKE, ("story", "q", (("guard", (("wait", "p"),), ECHO, ()),)), ("keep", "q", 4), ("post", 0, "x", (CANCEL,)))
        self.assertEqual(behind(script), [("kept", 1, 4), ("said", "cancel"), ("again", 1)])

    def test_no_story(self):
        for made in (("make", "q"), ("then", "p", "q", (("wait", "p"),), None), ("all", "q", ("p",)), ("first", "q", ())):
            script = (MAKE, made, ("guard", (CANCEL,), ECHO, ()))
            self.assertEqual(said_by(script), ["unknown"], made)
        self.assertEqual(said_by((("guard", (CANCEL,), ECHO, ()),)), ["unknown"])

    def test_a_name_made_anew(self):
        script = (MAKE, ("story", "q", (("wait", "p"), ("say", "on"))), ("make", "q"), ("guard", (CANCEL,), ECHO, ()), ("keep", "p", 1))
        self.assertEqual(said_by(script), ["unknown", "on"])
        # A follower of a story's promise isn't its own.
        script = (("story", "q", ()), MAKE, ("follow", "p", "q"), ("guard", (("cancel", "p"),), ECHO, ()))
        self.assertEqual(said_by(script), ["unknown"])

    def test_its_last_parts_are_done_once(self):
        story = (("guard", (("guard", (("wait", "p"),), None, say("in")),), None, say("out")),)
        script = (MAKE, ("story", "q", story), TAKE, ("post", 0, "x", (CANCEL, ("keep", "p", 1), CANCEL)))
        self.assertEqual(said_by(script), ["in", "out"])


if __name__ == "__main__":
    unittest.main()
