"""The interface of loops: what is handed in, told and refused [2, 6, 7, 12, 14]."""

import unittest

from loopcases import done, events, loop_of, say, steps
from rankloop import loops
from rankloop.errors import NoPromise, NoRank, NoScript
from rankloop.loops import Loop
from samples import NO_SCRIPTS, anything


class Making(unittest.TestCase):
    def test_the_numbers(self):
        self.assertEqual((loops.RANKS, loops.FLOOD, loops.DEEP, loops.MOST), (3, 100, 8, 400))

    def test_defaults(self):
        loop = Loop()
        self.assertEqual(loop.lines(), [[], [], []])
        self.assertEqual(loop.passes(), [None, None, None])
        self.assertEqual((loop.now(), loop.depth(), len(loop), loop.journal()), (0, 0, 0, []))
        self.assertIs(loop.is_busy(), False)
        self.assertEqual(loop, Loop(ranks=3, patience=None, flood=100, deep=8, calls=None))
        self.assertEqual(loop, Loop(calls={}, deep=8, flood=100, patience=(None, None, None), ranks=3))

    def test_by_name_alone(self):
        for parts in ((3,), (3, None), (3, None, 100, 8, None)):
            with self.assertRaises(TypeError):
                Loop(*parts)
        with self.assertRaises(TypeError):
            Loop().post((), 0)
        with self.assertRaises(TypeError):
            Loop().post((), 0, "work")

    def test_ranks(self):
        for ranks in range(1, 7):
            loop = Loop(ranks=ranks)
            self.assertEqual(loop.lines(), [[] for _ in range(ranks)])
            self.assertEqual(loop.passes(), [None] * ranks)
            self.assertEqual(loop.post((), rank=ranks - 1), 0)
            with self.assertRaises(NoRank):
                loop.post((), rank=ranks)

    def test_no_patience_at_all(self):
        loop = Loop(ranks=2)
        loop.post((), rank=1)
        for _ in range(30):
            loop.post((), rank=0)
            loop.turn()
        self.assertEqual(loop.passes(), [None, 30])

    def test_deep_and_flood_of_the_defaults(self):
        script = (("make", "p"), ("run", "p"))
        loop = done(*[script] * 9)
        self.assertEqual(events(loop).count(("fault", 8, "deep")), 1)
        micros = tuple([("micro", ())] * 101)
        self.assertIn(("flood", 1), events(done(micros)))
        self.assertNotIn(("flood", 1), events(done(micros[1:])))

    def test_what_is_handed_in_stays_and_is_copied(self):
        patience = [None, 0]
        calls = {"a": lambda told: say("x")}
        loop = Loop(ranks=2, patience=patience, calls=calls)
        twin = Loop(ranks=2, patience=(None, 0))
        patience[1] = 5
        patience.append(3)
        calls["a"] = None
        calls["b"] = lambda told: ()
        self.assertEqual(loop, twin)
        loop.post(say("low"))
        loop.post((("call", "a"), ("call", "b")), rank=1)
        loop.turns()
        self.assertEqual(events(loop), [
            ("task", 1, 1, "overdue"), ("said", "x"), ("fault", 1, "unknown"), ("task", 0, 0, "least"), ("said", "low")
        ])
        self.assertEqual((patience, sorted(calls)), ([None, 5, 3], ["a", "b"]))

    def test_each_method_is_in_the_class(self):
        names = ["post", "turn", "turns", "now", "depth", "journal", "promise", "lines", "passes", "is_busy", "copy",
                 "forget", "__init__", "__eq__", "__len__", "__str__"]
        self.assertEqual([name for name in names if name not in vars(Loop)], [])
        self.assertEqual(Loop.__module__, "rankloop.loops")


class Posting(unittest.TestCase):
    def test_numbers_from_0_on(self):
        loop = Loop()
        self.assertEqual([loop.post(()), loop.post((), rank=2), loop.post((), name="x", rank=1)], [0, 1, 2])
        self.assertEqual(loop.lines(), [["work"], ["x"], ["work"]])
        self.assertEqual(loop.passes(), [0, 0, 0])
        self.assertEqual(len(loop), 3)
        self.assertEqual(loop.post(script=()), 3)
        self.assertEqual(loop.lines()[0], ["work", "work"])

    def test_numbers_go_on_behind_those_of_works(self):
        loop = loop_of((("post", 0, "a", ()), ("micro", ()), ("make", "p")))
        loop.turns()
        self.assertEqual(loop.post(()), 3)

    def test_no_script(self):
        loop = loop_of(say("a"), patience=(1, 2, None))
        before = str(loop)
        for thing in [*NO_SCRIPTS, *[thing for thing in anything() if thing not in ((), (("echo",),))]]:
            for rank in (0, 7, "a", None):
                with self.assertRaises(NoScript) as caught:
                    loop.post(thing, rank=rank)
                self.assertIs(caught.exception.thing, thing)
        self.assertEqual(str(loop), before)
        self.assertEqual(loop.post(()), 1)

    def test_no_rank(self):
        loop = loop_of(say("a"), patience=(1, 2, None))
        before = str(loop)
        wrong = [thing for thing in anything() if thing is True or thing is False or thing not in (0, 1, 2)]
        for rank in [*wrong, 3, -1, -3, 5, 6, "0", "1", 10 ** 5000, -10 ** 5000]:
            with self.assertRaises(NoRank) as caught:
                loop.post(say("b"), rank=rank)
            self.assertIs(caught.exception.rank, rank)
        self.assertEqual(str(loop), before)
        self.assertEqual(loop.post(()), 1)


class Turns(unittest.TestCase):
    def test_nothing_to_do(self):
        loop = Loop()
        self.assertIs(loop.turn(), False)
        self.assertEqual(loop.turns(), 0)
        self.assertEqual(loop.journal(), [])

    def test_turn_and_turns(self):
        loop = loop_of(say("a"), say("b"), say("c"), say("d"))
        self.assertEqual(loop.turns(most=0), 0)
        self.assertEqual(loop.turns(0), 0)
        self.assertEqual(loop.journal(), [])
        self.assertIs(loop.turn(), True)
        self.assertEqual(loop.turns(2), 2)
        self.assertEqual(len(loop), 1)
        self.assertEqual(loop.turns(most=5), 1)
        self.assertEqual(loop.turns(), 0)
        self.assertIs(loop.turn(), False)

    def test_turns_are_400_where_left_out(self):
        loop = loop_of((("every", 1, 0, "a", ()),))
        self.assertEqual(loop.turns(), 400)
        self.assertEqual(loop.turns(3), 3)
        self.assertEqual(loop.now(), 402)

    def test_lists_are_the_askers_own(self):
        loop = loop_of(say("a"), say("b"), patience=(1, None, None))
        loop.turn()
        text = str(loop)
        for ask in (loop.journal, loop.lines, loop.passes):
            told = ask()
            first = ask()
            told.append("more")
            told[0] = "other"
            self.assertEqual(ask(), first)
        loop.lines()[0].append("more")
        self.assertEqual(loop.lines(), [["work"], [], []])
        self.assertEqual(str(loop), text)

    def test_events_are_tuples(self):
        loop = done((("spend", 3), ("say", "a")))
        self.assertEqual(loop.journal(), [(0, "task", 0, 0, "least"), (3, "said", "a")])
        self.assertEqual([row.__class__ for row in loop.journal()], [tuple, tuple])


class Ranks(unittest.TestCase):
    def test_a_patience(self):
        loop = loop_of((), (), (), ranks=2, patience=[None, 2])
        loop.post((), rank=1, name="x")
        loop.post((), rank=1, name="y")
        self.assertEqual(loop.passes(), [0, 0])
        told = []
        while loop.turn():
            told.append((loop.journal()[-1][2:], loop.passes(), loop.lines()))
        self.assertEqual(told, [
            ((0, 0, "least"), [0, 1], [["work", "work"], ["x", "y"]]),
            ((1, 0, "least"), [0, 2], [["work"], ["x", "y"]]),
            ((3, 1, "overdue"), [1, 0], [["work"], ["y"]]),
            ((2, 0, "least"), [None, 1], [[], ["y"]]),
            ((4, 1, "least"), [None, None], [[], []]),
        ])

    def test_without_patience(self):
        loop = Loop(ranks=3)
        for rank in (2, 1, 0, 2, 1, 0):
            loop.post((), rank=rank)
        self.assertEqual([rows[0][2:] for rows in steps(loop)], [
            (2, 0, "least"), (5, 0, "least"), (1, 1, "least"), (4, 1, "least"), (0, 2, "least"), (3, 2, "least")
        ])

    def test_six_ranks(self):
        loop = Loop(ranks=6, patience=(None, 4, 3, 2, 1, 0))
        for rank in range(6):
            loop.post((), rank=rank)
        told = []
        while loop.turn():
            told.append((*loop.journal()[-1][3:], loop.passes()))
        self.assertEqual(told, [
            (5, "overdue", [1, 1, 1, 1, 1, None]),
            (4, "overdue", [2, 2, 2, 2, None, None]),
            (3, "overdue", [3, 3, 3, None, None, None]),
            (2, "overdue", [4, 4, None, None, None, None]),
            (1, "overdue", [5, None, None, None, None, None]),
            (0, "least", [None] * 6),
        ])

    def test_one_rank(self):
        loop = loop_of(say("a"), (("post", 0, "x", say("c")), ("say", "b")), ranks=1, patience=(1,))
        told = []
        while loop.turn():
            told.append((loop.passes(), loop.lines()))
        self.assertEqual(told, [([0], [["work"]]), ([0], [["x"]]), ([None], [[]])])
        self.assertEqual(events(loop), [
            ("task", 0, 0, "least"), ("said", "a"), ("task", 1, 0, "least"), ("said", "b"), ("task", 2, 0, "least"),
            ("said", "c"),
        ])

    def test_overdue_with_patience_0_is_told_so(self):
        loop = loop_of((), ranks=1, patience=(0,))
        loop.turn()
        self.assertEqual(loop.journal(), [(0, "task", 0, 0, "overdue")])

    def test_works_put_by_works(self):
        script = (("post", 2, "c", say("low")), ("post", 1, "b", say("mid")), ("post", 0, "a", say("top")))
        loop = loop_of(script, ranks=3, patience=(None, 1, 1))
        told = []
        while loop.turn():
            told.append((loop.passes(), loop.lines(), loop.now()))
        self.assertEqual(told, [
            ([0, 0, 0], [["a"], ["b"], ["c"]], 0),
            ([None, 1, 1], [[], ["b"], ["c"]], 0),
            ([None, None, 2], [[], [], ["c"]], 0),
            ([None, None, None], [[], [], []], 0),
        ])
        self.assertEqual(events(loop), [
            ("task", 0, 0, "least"), ("task", 3, 0, "least"), ("said", "top"), ("task", 2, 1, "overdue"),
            ("said", "mid"), ("task", 1, 2, "overdue"), ("said", "low"),
        ])

    def test_a_line_that_was_empty_begins_with_0(self):
        loop = Loop(ranks=2, patience=(None, 9))
        loop.post((), rank=1)
        loop.post(())
        loop.turn()
        self.assertEqual(loop.passes(), [None, 1])
        loop.post(())
        self.assertEqual(loop.passes(), [0, 1])
        loop.post((), rank=1)
        self.assertEqual(loop.passes(), [0, 1])
        loop.turns(2)
        self.assertEqual(loop.passes(), [None, 0])


class Promises(unittest.TestCase):
    def test_fates(self):
        loop = done((("make", "a"), ("make", "b"), ("follow", "b", "a"), ("make", "c"), ("keep", "c", (1, None)),
                     ("make", "d"), ("break", "d", "bad")))
        self.assertEqual(loop.promise("a"), ("open",))
        self.assertEqual(loop.promise("b"), ("follows", 0))
        self.assertEqual(loop.promise(name="c"), ("kept", (1, None)))
        self.assertEqual(loop.promise("d"), ("broken", "bad"))

    def test_no_promise(self):
        loop = done((("make", "word"),))
        for thing in anything():
            if thing != "word":
                with self.assertRaises(NoPromise) as caught:
                    loop.promise(thing)
                self.assertIs(caught.exception.name, thing)
        with self.assertRaises(NoPromise):
            Loop().promise("word")

    def test_the_last_one_by_a_name(self):
        loop = done((("make", "p"), ("keep", "p", 1), ("make", "p")))
        self.assertEqual(loop.promise("p"), ("open",))


if __name__ == "__main__":
    unittest.main()
