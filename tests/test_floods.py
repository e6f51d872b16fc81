"""Micros and floods [12, 13]."""

import unittest

from loopcases import MAKE, done, events, loop_of, said, say, steps


def micros(*words):
    """A script that puts a micro for each word, which says it."""
    return tuple([("micro", say(word)) for word in words])


def short(rows):
    """Events without the clock and without the micros' own ones."""
    return [row[1:] for row in rows if row[1] != "micro"]


class Micros(unittest.TestCase):
    def test_in_order_and_such_as_come_amid(self):
        script = (("micro", (("say", "a"), ("micro", (("say", "c"), ("micro", say("d")))))), ("micro", say("b")))
        loop = done(script)
        self.assertEqual(said(loop), ["a", "b", "c", "d"])
        self.assertEqual(len(steps(loop_of(script))), 1)

    def test_ahead_of_the_next_work(self):
        loop = done(micros("a", "b"), say("c"))
        self.assertEqual(said(loop), ["a", "b", "c"])

    def test_behind_idle_works_and_those_of_timers(self):
        script = (("idle", None, "i", micros("a", "b")), ("after", 1, 0, "t", micros("c", "d")))
        self.assertEqual(said(done(script)), ["a", "b", "c", "d"])


class Floods(unittest.TestCase):
    def test_the_very_number_and_one_more(self):
        for flood in (1, 2, 3, 10):
            words = ["a"] * flood
            loop = done(micros(*words), flood=flood)
            self.assertNotIn("flood", [row[1] for row in loop.journal()])
            loop = loop_of(micros(*words, "b"), flood=flood)
            told = steps(loop)
            self.assertEqual([short(rows) for rows in told], [
                [("task", 0, 0, "least"), *[("said", "a")] * flood, ("flood", 1)], [("said", "b")]
            ])

    def test_a_flood_of_1(self):
        told = steps(loop_of(micros("a", "b", "c"), say("d"), flood=1))
        self.assertEqual([short(rows) for rows in told], [
            [("task", 0, 0, "least"), ("said", "a"), ("flood", 2)],
            [("task", 1, 0, "least"), ("said", "d"), ("said", "b"), ("flood", 1)],
            [("said", "c")],
        ])

    def test_micros_that_put_micros(self):
        inner = (("say", "a"), ("micro", (("say", "b"), ("micro", say("c")))))
        told = steps(loop_of((("micro", inner),), flood=2))
        self.assertEqual([short(rows) for rows in told], [
            [("task", 0, 0, "least"), ("said", "a"), ("said", "b"), ("flood", 1)], [("said", "c")]
        ])

    def test_a_turn_that_only_does_micros(self):
        loop = loop_of(micros("a", "b", "c", "d", "e"), flood=2)
        self.assertIs(loop.turn(), True)
        self.assertIs(loop.turn(), True)
        self.assertEqual(events(loop)[-3:], [("micro", 4), ("said", "d"), ("flood", 1)])
        self.assertIs(loop.turn(), True)
        self.assertIs(loop.turn(), False)
        self.assertEqual(said(loop), ["a", "b", "c", "d", "e"])
        self.assertEqual(loop_of(micros("a", "b", "c", "d", "e"), flood=2).turns(), 3)

    def test_behind_a_leap_and_an_idle_work(self):
        for deed, row in ((("after", 5, 0, "t", say("t")), (5, "leap", 0)), (("idle", None, "t", say("t")), (0, "idle", 3, None))):
            loop = loop_of((*micros("a", "b"), deed), flood=1)
            told = steps(loop)
            self.assertEqual(len(told), 2)
            self.assertEqual(told[1][0], row)
            self.assertEqual(said(loop), ["a", "t", "b"])

    def test_left_micros_come_ahead_of_new_ones(self):
        loop = done(micros("a", "b"), micros("c", "d"), flood=1)
        self.assertEqual(said(loop), ["a", "b", "c", "d"])

    def test_told_once_behind_each_work(self):
        # The run's end finds more micros, and the flood was told already.
        script = (MAKE, ("keep", "p", 1), *micros("a", "b"), ("run", "p"), ("micro", say("c")), ("say", "on"))
        told = steps(loop_of(script, flood=1))
        self.assertEqual([short(rows) for rows in told], [
            [("task", 0, 0, "least"), ("kept", 0, 1), ("run", 0), ("said", "a"), ("flood", 1), ("ran", 0), ("said", "on")],
            [("said", "b"), ("flood", 1)],
            [("said", "c")],
        ])

    def test_no_flood_told_where_none_is_left(self):
        # As many as the flood are done in the run; behind its end one more comes.
        script = (MAKE, ("keep", "p", 1), *micros("a"), ("run", "p"), ("micro", say("b")), ("say", "on"))
        told = steps(loop_of(script, flood=1))
        self.assertEqual([short(rows) for rows in told], [
            [("task", 0, 0, "least"), ("kept", 0, 1), ("run", 0), ("said", "a"), ("ran", 0), ("said", "on"), ("flood", 1)],
            [("said", "b")],
        ])

    def test_inner_turns_count_anew(self):
        script = (MAKE, *micros("a", "b", "c"), ("post", 0, "x", (("keep", "p", 1), ("micro", say("d")))), ("run", "p"), ("say", "on"))
        told = steps(loop_of(script, flood=2))
        self.assertEqual([short(rows) for rows in told], [
            [("task", 0, 0, "least"), ("run", 0), ("said", "a"), ("said", "b"), ("flood", 1)],
            [("task", 4, 0, "least"), ("kept", 0, 1), ("said", "c"), ("said", "d"), ("ran", 0), ("said", "on")],
        ])

    def test_a_run_goes_on_by_a_turn_of_micros(self):
        script = (MAKE, *micros("a", "b"), ("micro", (("keep", "p", 1),)), ("run", "p"), ("say", "on"))
        told = steps(loop_of(script, flood=1))
        self.assertEqual([short(rows) for rows in told], [
            [("task", 0, 0, "least"), ("run", 0), ("said", "a"), ("flood", 2)],
            [("said", "b"), ("flood", 1)],
            [("kept", 0, 1), ("ran", 0), ("said", "on")],
        ])

    def test_a_run_in_the_last_micro_of_a_flood(self):
        # The micro that runs is one of those that were done.
        script = (MAKE, ("keep", "p", 1), ("micro", (("run", "p"), ("say", "on"))), ("micro", say("a")))
        told = steps(loop_of(script, flood=1))
        self.assertEqual([short(rows) for rows in told], [
            [("task", 0, 0, "least"), ("kept", 0, 1), ("run", 0), ("flood", 1), ("ran", 0), ("said", "on")], [("said", "a")]
        ])

    def test_stuck_amid_a_flood(self):
        second = (("say", "second"), *micros("c", "d", "e"))
        script = (MAKE, ("guard", (*micros("a", "b"), ("run", "p")), second, ()))
        told = steps(loop_of(script, flood=1))
        self.assertEqual([short(rows) for rows in told], [
            [("task", 0, 0, "least"), ("run", 0), ("said", "a"), ("flood", 1)],
            [("said", "b")],
            [("stuck", 0), ("said", "second"), ("said", "c"), ("flood", 2)],
            [("said", "d"), ("flood", 1)],
            [("said", "e")],
        ])

    def test_stuck_within_a_run_that_a_flood_keeps(self):
        inner = (("make", "q"), ("guard", (("run", "q"),), (("micro", say("x")), ("micro", (("keep", "p", 1),))), ()))
        script = (MAKE, ("post", 0, "x", inner), ("run", "p"), ("say", "on"))
        told = steps(loop_of(script, flood=1))
        self.assertEqual([short(rows) for rows in told], [
            [("task", 0, 0, "least"), ("run", 0)],
            [("task", 1, 0, "least"), ("run", 1)],
            [("stuck", 1), ("said", "x"), ("flood", 1)],
            [("kept", 0, 1), ("ran", 0), ("said", "on")],
        ])

    def test_unhandled_wait_for_the_last_micro(self):
        script = (MAKE, ("break", "p", "bad"), *micros("a", "b"))
        told = steps(loop_of(script, flood=1))
        self.assertEqual([short(rows) for rows in told], [
            [("task", 0, 0, "least"), ("broken", 0, "bad"), ("said", "a"), ("flood", 1)], [("said", "b"), ("unhandled", 0)]
        ])


if __name__ == "__main__":
    unittest.main()
