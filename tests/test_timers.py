"""Timers, idle works, leaps, stop and rerank [7, 10 to 12]."""

import random
import unittest

from loopcases import ECHO, done, events, loop_of, said, said_by, say
from rankloop.loops import Loop


class Timers(unittest.TestCase):
    def test_alike_dues_by_number(self):
        script = (("after", 5, 0, "a", say("a")), ("after", 3, 0, "b", say("b")), ("after", 5, 0, "c", say("c")),
                  ("spend", 2), ("after", 3, 0, "d", say("d")), ("after", 1, 0, "e", say("e")))
        self.assertEqual(said_by(script), ["b", "e", "a", "c", "d"])

    def test_many_in_any_order(self):
        chance = random.Random(7)
        for many in (1, 2, 3, 10, 150):
            waits = [chance.randrange(many) for _ in range(many)]
            for spent in (0, 1000):
                script = (*[("after", wait, 0, "a", ()) for wait in waits], ("spend", spent))
                told = [row[2] for row in done(script).journal() if row[1] == "task"]
                self.assertEqual(told[1:], sorted(range(1, many + 1), key=lambda number: (waits[number - 1], number)))

    def test_the_order_of_dues_is_that_of_the_line(self):
        loop = loop_of((("after", 5, 1, "a", ()), ("after", 3, 1, "b", ()), ("after", 4, 0, "c", ()), ("idle", 4, "d", ()),
                        ("every", 4, 2, "e", ()), ("after", 3, 2, "f", ()), ("spend", 9)))
        loop.turn()
        self.assertEqual(loop.lines(), [[], [], []])
        loop.turn()
        self.assertEqual(loop.lines(), [[], ["b", "a"], ["f", "d", "e"]])

    def test_behind_what_stands_in_the_line(self):
        loop = loop_of((("after", 1, 0, "a", ()), ("spend", 1), ("post", 0, "b", ())), ())
        loop.turn()
        loop.turn()
        self.assertEqual(loop.lines(), [["b", "a"], [], []])

    def test_no_timer_is_early(self):
        loop = loop_of((("after", 5, 0, "a", ()), ("spend", 4)), (("spend", 1),), ())
        loop.turn()
        loop.turn()
        self.assertEqual(loop.lines()[0], ["work"])
        loop.turn()
        self.assertEqual(loop.lines()[0], ["a"])
        self.assertEqual(loop.now(), 5)

    def test_due_at_once(self):
        loop = loop_of((("after", 0, 0, "a", say("a")), ("post", 1, "b", say("b"))))
        loop.turn()
        self.assertEqual(loop.lines(), [[], ["b"], []])
        loop.turns()
        self.assertEqual(said(loop), ["a", "b"])

    def test_a_leap(self):
        loop = done((("after", 1000, 0, "a", ()), ("after", 7, 0, "b", (("spend", 3),))))
        self.assertEqual(loop.journal(), [
            (0, "task", 0, 0, "least"), (7, "leap", 0), (7, "task", 2, 0, "least"), (1000, "leap", 10),
            (1000, "task", 1, 0, "least"),
        ])

    def test_no_leap_without_timers(self):
        loop = done((("idle", 5, "a", ()),))
        self.assertEqual(loop.now(), 0)

    def test_a_leap_is_part_of_a_turn(self):
        loop = loop_of((("after", 3, 0, "a", ()),))
        self.assertEqual(loop.turns(), 2)


class Every(unittest.TestCase):
    def test_due_several_times(self):
        loop = loop_of((("every", 3, 0, "a", ECHO), ("spend", 10)), (("spend", 20),))
        loop.turn()
        self.assertEqual(loop.turns(3), 3)
        self.assertEqual(loop.journal(), [
            (0, "task", 0, 0, "least"), (10, "task", 1, 0, "least"), (30, "task", 2, 0, "least"), (30, "said", 3),
            (30, "task", 2, 0, "least"), (30, "said", 7),
        ])
        # On the same row of times: 33 comes next.
        loop.turn()
        self.assertEqual(loop.journal()[-3:], [(33, "leap", 30), (33, "task", 2, 0, "least"), (33, "said", 1)])

    def test_at_its_due_and_one_behind(self):
        for spent, told, left in ((2, None, None), (3, 1, 6), (5, 1, 6), (6, 2, 9), (8, 2, 9), (9, 3, 12)):
            loop = loop_of((("every", 3, 0, "a", ECHO), ("spend", spent)))
            loop.turns(2)
            if told is None:
                self.assertEqual(loop.journal()[1:], [(3, "leap", 2), (3, "task", 1, 0, "least"), (3, "said", 1)])
            else:
                self.assertEqual(said(loop), [told])
                loop.turn()
                self.assertEqual(loop.now(), left)

    def test_works_that_stay_in_the_line(self):
        # Its works come while earlier ones still stand there.
        loop = loop_of((("every", 2, 1, "a", ECHO), ("spend", 2)), (("spend", 2),), (("spend", 2),))
        loop.turns(3)
        self.assertEqual(loop.lines(), [[], ["a", "a"], []])
        self.assertEqual(loop.passes(), [None, 2, None])
        loop.turns(2)
        self.assertEqual(said(loop), [1, 1])

    def test_two_at_one_time(self):
        loop = loop_of((("every", 2, 0, "a", say("a")), ("every", 3, 0, "b", say("b"))))
        loop.turns(8)
        self.assertEqual([row for row in loop.journal() if row[1] == "said"], [
            (2, "said", "a"), (3, "said", "b"), (4, "said", "a"), (6, "said", "a"), (6, "said", "b"), (8, "said", "a"),
            (9, "said", "b"),
        ])


class Idle(unittest.TestCase):
    def test_told_how_long_until_the_next_timer(self):
        script = (("after", 9, 0, "t", ()), ("after", 7, 0, "t", ()), ("idle", None, "a", (("echo",), ("spend", 2))),
                  ("idle", 8, "b", ECHO), ("idle", None, "c", (("stop", "t"),)), ("idle", None, "d", ECHO))
        loop = done(script)
        self.assertEqual(loop.journal(), [
            (0, "task", 0, 0, "least"), (0, "idle", 3, 7), (0, "said", 7), (2, "idle", 4, 5), (2, "said", 5),
            (2, "idle", 5, 5), (2, "idle", 6, None), (2, "said", None),
        ])

    def test_its_own_due_is_no_timers(self):
        loop = done((("idle", None, "a", ECHO), ("idle", 3, "b", ECHO)))
        self.assertEqual(events(loop)[1:], [("idle", 1, None), ("said", None), ("idle", 2, None), ("said", None)])

    def test_only_where_no_line_has_a_work(self):
        loop = loop_of((("idle", None, "a", (("post", 2, "x", ()),)), ("idle", None, "b", ())), ())
        loop.post((), rank=2)
        loop.turns()
        self.assertEqual([row[:2] for row in events(loop)], [
            ("task", 0), ("task", 1), ("task", 2), ("idle", 3), ("task", 5), ("idle", 4)
        ])

    def test_ahead_of_a_leap(self):
        loop = done((("after", 4, 0, "a", ()), ("idle", None, "b", ())))
        self.assertEqual([row[:2] for row in events(loop)], [("task", 0), ("idle", 2), ("leap", 0), ("task", 1)])

    def test_at_its_due_it_goes_to_the_last_line(self):
        for ranks in (1, 2, 6):
            loop = loop_of((("idle", 5, "a", ECHO), ("spend", 5)), (), ranks=ranks)
            loop.post((), rank=ranks - 1, name="b")
            loop.turn()
            loop.turn()
            self.assertEqual(loop.lines()[-1], ["b", "a"])
            loop.turns()
            self.assertEqual(events(loop)[-2:], [("task", 3, ranks - 1, "least"), ("said", None)])

    def test_not_yet_at_its_due(self):
        loop = loop_of((("idle", 5, "a", ()), ("spend", 4)))
        loop.turns()
        self.assertEqual(events(loop)[-1], ("idle", 1, None))

    def test_due_at_once(self):
        loop = done((("idle", 0, "a", ()), ("idle", None, "b", ())))
        self.assertEqual([row[:2] for row in events(loop)], [("task", 0), ("task", 1), ("idle", 2)])

    def test_dues_with_timers_by_number(self):
        loop = loop_of((("idle", 5, "a", ()), ("after", 5, 2, "b", ()), ("idle", 4, "c", ()), ("idle", 5, "d", ()), ("spend", 8)), ())
        loop.turns(2)
        self.assertEqual(loop.lines(), [[], [], ["c", "a", "b", "d"]])


class Stop(unittest.TestCase):
    def test_passes(self):
        loop = Loop(ranks=2, patience=(None, 9))
        for name in ("a", "b"):
            loop.post((), rank=1, name=name)
        loop.post(())
        loop.post((("stop", "a"), ("echo",)))
        loop.turn()
        self.assertEqual(loop.passes(), [0, 1])
        loop.turn()
        self.assertEqual((loop.passes(), loop.lines(), said(loop)), ([None, 0], [[], ["b"]], [1]))

    def test_not_the_first(self):
        loop = Loop(ranks=2, patience=(None, 9))
        for name in ("b", "a", "a"):
            loop.post((), rank=1, name=name)
        loop.post((("stop", "a"), ("echo",)))
        loop.turn()
        self.assertEqual((loop.passes(), loop.lines(), said(loop)), ([None, 1], [[], ["b"]], [2]))

    def test_the_whole_line(self):
        loop = Loop(ranks=2)
        loop.post((), rank=1, name="a")
        loop.post((("stop", "a"), ("echo",)))
        self.assertEqual(loop.turns(), 1)
        self.assertEqual((loop.passes(), loop.lines(), said(loop)), ([None, None], [[], []], [1]))

    def test_none(self):
        self.assertEqual(said_by((("stop", "work"), ("echo",))), [0])

    def test_others_stay(self):
        script = (
            ("after", 9, 0, "a", say("t")), ("after", 9, 0, "b", ()), ("after", 8, 0, "b", ()), ("idle", None, "a", say("i")),
            ("idle", 3, "b", ()), ("idle", None, "b", ()), ("idle", None, "b", ()), ("post", 1, "a", say("w")), ("post", 1, "b", ()),
            ("stop", "b"), ("echo",),
        )
        loop = done(script)
        self.assertEqual(said(loop), [6, "w", "i", "t"])
        self.assertEqual([row[:2] for row in events(loop) if row[0] != "said"], [("task", 0), ("task", 8), ("idle", 4), ("leap", 0), ("task", 1)])

    def test_not_those_that_have_begun(self):
        loop = loop_of((("yield", 1), ("say", "on")), (("stop", "work"), ("echo",), ("rerank", "work", 2), ("echo",)))
        loop.turns(2)
        self.assertEqual((loop.lines(), said(loop)), ([[], ["work"], []], [0, 0]))

    def test_not_micros_and_waits(self):
        script = (("make", "p"), ("keep", "p", 1), ("wait", "p"), ("say", "on"))
        self.assertEqual(said_by(script, (("stop", "work"), ("echo",))), ["on", 0])

    def test_an_every_and_its_works(self):
        loop = loop_of((("every", 2, 1, "a", ()), ("spend", 2)), (("stop", "a"), ("echo",)))
        self.assertEqual(loop.turns(), 2)
        self.assertEqual(said(loop), [2])


class Rerank(unittest.TestCase):
    def test_passes_begin_with_0(self):
        loop = Loop(ranks=3, patience=(None, 9, 9))
        for rank, name in ((1, "a"), (1, "b"), (2, "a")):
            loop.post((), rank=rank, name=name)
        loop.post(())
        loop.post((("rerank", "a", 2), ("echo",)))
        loop.turn()
        self.assertEqual(loop.passes(), [0, 1, 1])
        loop.turn()
        # a of rank 2 stands first in its own line no more; a of rank 1 does.
        self.assertEqual((loop.lines(), loop.passes(), said(loop)), ([[], ["b"], ["a", "a"]], [None, 0, 0], [2]))

    def test_first_in_its_own_line_again(self):
        for names, wanted in ((["a"], ["a"]), (["a", "a"], ["a", "a"]), (["a", "b"], ["b", "a"])):
            loop = Loop(ranks=2, patience=(None, 9))
            for name in names:
                loop.post((), rank=1, name=name)
            loop.post((("rerank", "a", 1), ("echo",)))
            loop.turn()
            self.assertEqual((loop.lines(), loop.passes()), ([[], wanted], [None, 0]))

    def test_behind_another_first(self):
        loop = Loop(ranks=2, patience=(None, 9))
        for name in ("b", "a", "c"):
            loop.post((), rank=1, name=name)
        loop.post((("rerank", "a", 1), ("echo",)))
        loop.turn()
        self.assertEqual((loop.lines(), loop.passes(), said(loop)), ([[], ["b", "c", "a"]], [None, 1], [1]))

    def test_to_an_empty_line(self):
        loop = Loop(ranks=3)
        loop.post((), rank=2, name="a")
        loop.post((("rerank", "a", 0), ("echo",)))
        loop.turn()
        self.assertEqual((loop.lines(), loop.passes(), said(loop)), ([["a"], [], []], [0, None, None], [1]))

    def test_timers_and_idle_works_stay(self):
        script = (("after", 3, 2, "a", ()), ("idle", 9, "a", ()), ("every", 9, 1, "a", ()), ("rerank", "a", 0), ("echo",))
        loop = loop_of(script)
        loop.turn()
        self.assertEqual((loop.lines(), said(loop)), ([[], [], []], [0]))


if __name__ == "__main__":
    unittest.main()
