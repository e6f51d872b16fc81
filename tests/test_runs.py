"""Loops within the loop [16]."""

import unittest

from loopcases import ECHO, MAKE, behind, done, events, loop_of, said_by, say, steps

BOTH = (("make", "p"), ("make", "q"))
KEEP = ("keep", "p", 1)


class Runs(unittest.TestCase):
    def test_each_inner_turn_is_a_turn(self):
        loop = loop_of((MAKE, ("post", 0, "x", say("a")), ("post", 0, "x", (KEEP, ("say", "b"))), ("run", "p"), ("echo",)))
        told = []
        while loop.turn():
            told.append((loop.depth(), [row[1:] for row in loop.journal()]))
            loop.forget()
        self.assertEqual(told, [
            (1, [("task", 0, 0, "least"), ("run", 0)]),
            (1, [("task", 1, 0, "least"), ("said", "a")]),
            (0, [("task", 2, 0, "least"), ("kept", 0, 1), ("said", "b"), ("ran", 0), ("said", 1)]),
        ])

    def test_a_settled_promise(self):
        script = (MAKE, KEEP, ("micro", say("a")), ("run", "p"), ("echo",))
        self.assertEqual(behind(script), [("kept", 0, 1), ("run", 0), ("said", "a"), ("ran", 0), ("said", 1)])
        loop = loop_of(script)
        self.assertEqual(loop.turns(), 1)

    def test_a_broken_promise(self):
        script = (MAKE, ("break", "p", "bad"), ("run", "p"), ("say", "never"))
        self.assertEqual(behind(script), [("broken", 0, "bad"), ("run", 0), ("ran", 0), ("fault", 0, "bad")])

    def test_micros_settle_it(self):
        script = (MAKE, ("micro", (KEEP,)), ("micro", say("a")), ("run", "p"), ("echo",))
        self.assertEqual(behind(script), [("run", 0), ("kept", 0, 1), ("said", "a"), ("ran", 0), ("said", 1)])

    def test_one_that_follows(self):
        script = (*BOTH, ("follow", "p", "q"), ("post", 0, "x", (("keep", "q", 4),)), ("run", "p"), ("echo",))
        self.assertEqual(behind(script), [("run", 0), ("kept", 1, 4), ("kept", 0, 4), ("ran", 0), ("said", 4)])

    def test_turns_by_ranks_leaps_and_idle_works(self):
        script = (MAKE, ("after", 5, 2, "x", (KEEP,)), ("idle", None, "x", say("idle")), ("post", 1, "x", say("line")), ("run", "p"),
                  ("echo",))
        loop = done(script)
        self.assertEqual(loop.journal(), [
            (0, "task", 0, 0, "least"), (0, "run", 0), (0, "task", 3, 1, "least"), (0, "said", "line"), (0, "idle", 2, 5),
            (0, "said", "idle"), (5, "leap", 0), (5, "task", 1, 2, "least"), (5, "kept", 0, 1), (5, "ran", 0), (5, "said", 1),
        ])

    def test_works_from_outside_amid(self):
        loop = loop_of((MAKE, ("run", "p"), ("echo",)))
        loop.turn()
        self.assertEqual((loop.depth(), len(loop)), (1, 0))
        loop.post((KEEP,), rank=2)
        loop.turn()
        self.assertEqual((loop.depth(), events(loop)[-1]), (0, ("said", 1)))


class Within(unittest.TestCase):
    def test_the_innermost_ends_first(self):
        # The outer promise is settled first, and its run waits for the inner one.
        outer = (*BOTH, ("post", 0, "x", (KEEP, ("run", "q"), ("say", "inner"))), ("post", 0, "x", (("keep", "q", 2),)),
                 ("run", "p"), ("say", "outer"))
        loop = loop_of(outer)
        depths = []
        while loop.turn():
            depths.append(loop.depth())
        self.assertEqual(depths, [1, 2, 0])
        self.assertEqual(events(loop), [
            ("task", 0, 0, "least"), ("run", 0), ("task", 1, 0, "least"), ("kept", 0, 1), ("run", 1), ("task", 2, 0, "least"),
            ("kept", 1, 2), ("ran", 1), ("said", "inner"), ("ran", 0), ("said", "outer"),
        ])

    def test_micros_between_the_ends(self):
        outer = (*BOTH, ("post", 0, "x", (("run", "q"), ("say", "inner"), ("micro", say("amid")))),
                 ("post", 0, "x", (KEEP, ("keep", "q", 2))), ("run", "p"), ("say", "outer"))
        self.assertEqual(said_by(outer), ["inner", "amid", "outer"])

    def test_several_runs_of_one_promise(self):
        loop = done((MAKE, ("run", "p"), ("say", "a")), (("run", "p"), ("say", "b")), (("run", "p"), ("say", "c")), (KEEP,))
        self.assertEqual(events(loop)[-7:], [
            ("kept", 0, 1), ("ran", 0), ("said", "c"), ("ran", 0), ("said", "b"), ("ran", 0), ("said", "a")
        ])

    def test_in_a_micro(self):
        script = (MAKE, ("micro", (("say", "a"), ("run", "p"), ("say", "b"))), ("micro", say("c")), ("post", 0, "x", (KEEP,)))
        loop = loop_of(script)
        loop.turn()
        self.assertEqual(loop.depth(), 1)
        self.assertEqual(events(loop), [("task", 0, 0, "least"), ("micro", 1), ("said", "a"), ("run", 0), ("micro", 2), ("said", "c")])
        loop.turns()
        self.assertEqual(events(loop)[6:], [("task", 3, 0, "least"), ("kept", 0, 1), ("ran", 0), ("said", "b")])

    def test_runs_in_micros_of_one_turn(self):
        inner = (("run", "p"), ("say", "a"))
        script = (*BOTH, ("micro", inner), ("micro", (("run", "q"), ("say", "b"))), ("micro", (KEEP,)), ("micro", (("keep", "q", 2),)))
        self.assertEqual(behind(script), [
            ("run", 0), ("run", 1), ("kept", 0, 1), ("kept", 1, 2), ("ran", 1), ("said", "b"), ("ran", 0), ("said", "a")
        ])

    def test_twice_in_one_work(self):
        script = (*BOTH, ("post", 0, "x", (KEEP,)), ("run", "p"), ("post", 0, "x", (("keep", "q", 2),)), ("run", "q"), ("echo",))
        self.assertEqual(behind(script), [
            ("run", 0), ("kept", 0, 1), ("ran", 0), ("run", 1), ("kept", 1, 2), ("ran", 1), ("said", 2)
        ])

    def test_a_run_ends_and_its_work_runs_anew(self):
        outer = (*BOTH, ("post", 0, "x", (("run", "q"), ("make", "r"), ("post", 0, "x", (("keep", "r", 3),)), ("run", "r"), ("echo",))),
                 ("post", 0, "x", (("keep", "q", 2), KEEP)), ("run", "p"), ("say", "outer"))
        self.assertEqual(said_by(outer), [3, "outer"])


class Deep(unittest.TestCase):
    def nested(self, many, **parts):
        """A loop in which so many works run for one promise."""
        loop = loop_of((MAKE,), **parts)
        for _ in range(many):
            loop.post((("guard", (("run", "p"),), ECHO, ()), ("say", "on")))
        loop.turns(many + 1)
        return loop

    def test_as_deep_as_deep_and_one_deeper(self):
        for deep in (1, 2, 8, 20):
            loop = self.nested(deep, deep=deep)
            self.assertEqual(loop.depth(), deep)
            self.assertNotIn(("said", "deep"), events(loop))
            loop = self.nested(deep + 1, deep=deep)
            self.assertEqual(loop.depth(), deep)
            self.assertEqual(events(loop)[-3:], [("task", deep + 1, 0, "least"), ("said", "deep"), ("said", "on")])
            self.assertEqual(events(loop).count(("run", 0)), deep)

    def test_it_takes_nothing(self):
        script = (("make", "q"), ("break", "q", "bad"), ("guard", (("run", "q"),), ECHO, ()))
        loop = done((MAKE, ("run", "p")), script, deep=1)
        self.assertEqual(events(loop), [
            ("task", 0, 0, "least"), ("run", 0), ("task", 1, 0, "least"), ("broken", 1, "bad"), ("said", "deep"), ("unhandled", 1),
            ("stuck", 0), ("fault", 0, "stuck"),
        ])

    def test_nor_is_it_late(self):
        loop = done((MAKE, ("break", "p", "bad"), ("make", "q")), (("run", "q"),), (("guard", (("run", "p"),), ECHO, ()),), deep=1)
        self.assertIn(("said", "deep"), events(loop))
        self.assertNotIn(("late", 0), events(loop))

    def test_unknown_goes_ahead(self):
        loop = done((MAKE, ("run", "p")), (("guard", (("run", "x"),), ECHO, ()),), deep=1)
        self.assertIn(("said", "unknown"), events(loop))

    def test_settled_ones_too(self):
        loop = done((MAKE, ("run", "p")), (("make", "q"), ("keep", "q", 1), ("guard", (("run", "q"),), ECHO, ())), deep=1)
        self.assertIn(("said", "deep"), events(loop))

    def test_room_again_behind_an_end(self):
        script = (MAKE, KEEP, ("run", "p"), ("run", "p"), ("run", "p"), ("say", "on"))
        self.assertEqual(said_by(script, deep=1), ["on"])


class Stuck(unittest.TestCase):
    def test_stuck(self):
        loop = loop_of((MAKE, ("run", "p"), ("say", "never")))
        self.assertIs(loop.turn(), True)
        self.assertEqual(loop.depth(), 1)
        self.assertIs(loop.turn(), True)
        self.assertEqual(events(loop), [("task", 0, 0, "least"), ("run", 0), ("stuck", 0), ("fault", 0, "stuck")])
        self.assertEqual(loop.depth(), 0)
        self.assertIs(loop.turn(), False)

    def test_it_counts_as_a_turn(self):
        self.assertEqual(loop_of((MAKE, ("run", "p"))).turns(), 2)

    def test_from_the_innermost_outward(self):
        loop = loop_of((*BOTH, ("run", "p")), (("run", "q"),))
        told = [[row[1:] for row in rows] for rows in steps(loop)]
        self.assertEqual(told, [
            [("task", 0, 0, "least"), ("run", 0)], [("task", 1, 0, "least"), ("run", 1)],
            [("stuck", 1), ("fault", 1, "stuck")], [("stuck", 0), ("fault", 0, "stuck")],
        ])

    def test_what_the_stuck_one_does_then(self):
        # The inner one keeps the outer promise behind its fault.
        loop = loop_of((*BOTH, ("run", "p"), ("echo",)), (("guard", (("run", "q"),), (("pass", "p"),), ()),))
        told = [[row[1:] for row in rows] for rows in steps(loop)]
        self.assertEqual(told[2:], [[("stuck", 1), ("kept", 0, "stuck"), ("ran", 0), ("said", "stuck")]])

    def test_micros_behind_it(self):
        script = (MAKE, ("guard", (("run", "p"),), (("micro", say("a")),), ()), ("say", "on"))
        self.assertEqual(behind(script), [("run", 0), ("stuck", 0), ("said", "on"), ("said", "a")])

    def test_a_waiting_work_is_nothing_to_come(self):
        script = (*BOTH, ("micro", (("wait", "q"), KEEP)), ("run", "p"))
        self.assertEqual(behind(script), [("run", 0), ("stuck", 0), ("fault", 0, "stuck")])

    def test_the_clock_is_told(self):
        loop = done((MAKE, ("spend", 4), ("run", "p")))
        self.assertEqual(loop.journal()[1:], [(4, "run", 0), (4, "stuck", 0), (4, "fault", 0, "stuck")])

    def test_promises_settled_in_any_order(self):
        for names in (("a", "b", "c"), ("c", "b", "a"), ("b", "c", "a"), ("b", "a", "c")):
            loop = loop_of((("make", "a"), ("make", "b"), ("make", "c")))
            for name in ("a", "b", "c"):
                loop.post((("run", name), ("say", name)))
            for name in names:
                loop.post((("keep", name, 1),))
            loop.turns()
            rows = [row for row in events(loop) if row[0] in ("said", "kept", "stuck")]
            self.assertEqual([row[1] for row in rows if row[0] == "said"], ["c", "b", "a"])
            at = rows.index(("kept", 2, 1))
            # The innermost ends as soon as its promise is settled.
            self.assertEqual(rows[at + 1], ("said", "c"))


if __name__ == "__main__":
    unittest.main()
