"""Promises: settled once, followed, taken; those that nobody takes [15, 17, 18]."""

import itertools
import unittest

from loopcases import ECHO, MAKE, behind, done, events, events_of, loop_of, said_by, say, steps

BOTH = (("make", "p"), ("make", "q"))
KEEP = ("keep", "p", 1)
BREAK = ("break", "p", "bad")


def promises(*names):
    """Deeds that make these, in order."""
    return tuple([("make", name) for name in names])


class Again(unittest.TestCase):
    def test_settled_twice(self):
        for first, second in itertools.product((KEEP, BREAK), (("keep", "p", 2), ("break", "p", "other"), ("pass", "p"))):
            loop = done((MAKE, first, second))
            fate = ("kept", 1) if first == KEEP else ("broken", "bad")
            self.assertEqual(events(loop)[2], ("again", 0))
            self.assertEqual(loop.promise("p"), fate)

    def test_one_that_follows(self):
        for deed in (KEEP, BREAK, ("pass", "p"), ("follow", "p", "q"), ("follow", "p", "p")):
            loop = done((*BOTH, ("follow", "p", "q"), deed))
            self.assertEqual(events(loop), [("task", 0, 0, "least"), ("again", 0)])
            self.assertEqual(loop.promise("p"), ("follows", 1))

    def test_follow_of_a_settled_one(self):
        for deed in (("follow", "p", "q"), ("follow", "p", "p")):
            self.assertEqual(behind((*BOTH, KEEP, deed)), [("kept", 0, 1), ("again", 0)])

    def test_that_takes_nothing(self):
        script = (*BOTH, ("break", "q", "bad"), KEEP, ("follow", "p", "q"))
        self.assertEqual(behind(script), [("broken", 1, "bad"), ("kept", 0, 1), ("again", 0), ("unhandled", 1)])

    def test_a_storys_end(self):
        self.assertEqual(behind((("story", "q", (("give", 1),)), ("keep", "q", 2))), [("kept", 0, 2), ("again", 0)])
        self.assertEqual(behind((("story", "q", (("fail", "x"),)), ("keep", "q", 2))), [("kept", 0, 2), ("again", 0)])
        script = (MAKE, ("story", "q", ()), ("follow", "q", "p"))
        self.assertEqual(behind(script), [("again", 1)])

    def test_a_thens_end(self):
        for kept in (None, ECHO, ()):
            script = (MAKE, ("then", "p", "q", kept, None), ("keep", "q", 2), KEEP)
            self.assertEqual([row for row in behind(script) if row[0] != "said"], [("kept", 1, 2), ("kept", 0, 1), ("again", 1)])
            script = (MAKE, ("make", "r"), ("then", "p", "q", kept, None), ("follow", "q", "r"), KEEP)
            self.assertEqual([row for row in behind(script) if row[0] != "said"], [("kept", 0, 1), ("again", 2)])


class Follow(unittest.TestCase):
    def test_a_settled_one(self):
        self.assertEqual(behind((*BOTH, ("keep", "q", 3), ("follow", "p", "q"))), [("kept", 1, 3), ("kept", 0, 3)])
        script = (*BOTH, ("break", "q", "bad"), ("follow", "p", "q"))
        self.assertEqual(behind(script), [("broken", 1, "bad"), ("broken", 0, "bad"), ("unhandled", 0)])

    def test_rows(self):
        script = (*promises("a", "b", "c", "d"), ("follow", "a", "b"), ("follow", "c", "d"), ("follow", "b", "c"), ("break", "d", "x"))
        self.assertEqual(behind(script), [
            ("broken", 3, "x"), ("broken", 2, "x"), ("broken", 1, "x"), ("broken", 0, "x"), ("unhandled", 0)
        ])

    def test_in_its_place_among_takers(self):
        script = (
            *BOTH, ("then", "p", "r", say("before"), None), ("then", "q", "r", say("first"), None), ("follow", "p", "q"),
            ("then", "p", "r", say("amid"), None), ("then", "q", "r", say("last"), None), ("keep", "q", 1),
        )
        self.assertEqual(said_by(script), ["first", "before", "amid", "last"])
        self.assertEqual(behind(script)[:2], [("kept", 1, 1), ("kept", 0, 1)])

    def test_rings(self):
        self.assertEqual(behind((MAKE, ("follow", "p", "p"))), [("broken", 0, "ring"), ("unhandled", 0)])
        script = (*BOTH, ("follow", "p", "q"), ("follow", "q", "p"))
        self.assertEqual(behind(script), [("broken", 1, "ring"), ("broken", 0, "ring"), ("unhandled", 0)])
        script = (*promises("a", "b", "c"), ("follow", "a", "b"), ("follow", "b", "c"), ("follow", "c", "a"))
        self.assertEqual(behind(script)[:3], [("broken", 2, "ring"), ("broken", 1, "ring"), ("broken", 0, "ring")])

    def test_no_ring(self):
        script = (*promises("a", "b", "c"), ("follow", "a", "b"), ("follow", "c", "b"))
        self.assertEqual(behind(script), [])

    def test_a_ring_takes_nothing(self):
        # q is followed by p, which takes q; p is taken by nobody.
        script = (*BOTH, ("follow", "p", "q"), ("follow", "q", "p"))
        self.assertIn(("unhandled", 0), behind(script))
        self.assertNotIn(("unhandled", 1), behind(script))

    def test_follow_takes(self):
        script = (*BOTH, ("follow", "p", "q"), ("break", "q", "bad"))
        self.assertEqual(behind(script), [("broken", 1, "bad"), ("broken", 0, "bad"), ("unhandled", 0)])

    def test_a_long_row(self):
        loop = loop_of(promises("b"))
        link = (("make", "a"), ("follow", "a", "b"), ("make", "b"), ("follow", "b", "a"))
        for _ in range(60):
            loop.post(link * 40)
        loop.post((("break", "b", "bad"), ("then", "b", "c", None, None)))
        loop.turns()
        self.assertEqual(events(loop)[-1], ("again", 4800))
        self.assertEqual(loop.promise("b"), ("follows", 4799))
        # The first one of the row is kept, and all behind it.
        other = loop_of(promises("b", "c"), (("follow", "b", "c"),))
        for _ in range(60):
            other.post(link * 40)
        other.post((("keep", "c", 1),))
        other.turns()
        self.assertEqual(other.promise("b"), ("kept", 1))
        self.assertEqual(len([row for row in events(other) if row[0] == "kept"]), 4802)

    def test_follow_of_a_gathering_one(self):
        # Its micros come, and nothing is told.
        script = (*BOTH, ("all", "r", ("p",)), ("follow", "r", "q"), KEEP)
        self.assertEqual(events_of(script)[1:], [("kept", 0, 1), ("micro", 1)])


class Takers(unittest.TestCase):
    def test_order_ahead_of_settling(self):
        script = (MAKE, ("then", "p", "q", say("a"), None), ("post", 0, "x", (("wait", "p"), ("say", "b"))),
                  ("post", 0, "x", (("then", "p", "q", say("c"), None),)), ("post", 0, "x", (KEEP, ("say", "now"))))
        self.assertEqual(said_by(script), ["now", "a", "b", "c"])

    def test_behind_settling(self):
        script = (MAKE, ("then", "p", "q", say("a"), None), KEEP, ("micro", say("b")), ("then", "p", "q", say("c"), None), ("wait", "p"),
                  ("say", "d"))
        self.assertEqual(said_by(script), ["a", "b", "c", "d"])

    def test_never_amid_another_script(self):
        script = (MAKE, ("then", "p", "q", say("b"), None), KEEP, ("say", "a"))
        self.assertEqual(said_by(script), ["a", "b"])

    def test_a_name_made_anew(self):
        script = (MAKE, ("then", "p", "q", say("elder"), None), MAKE, ("then", "p", "q", say("new"), None), KEEP)
        self.assertEqual(behind(script), [("kept", 2, 1), ("said", "new"), ("kept", 3, None)])
        script = (MAKE, ("post", 1, "x", (MAKE, ("keep", "p", 2))), ("wait", "p"), ("say", "never"))
        self.assertEqual(behind(script), [("kept", 1, 2)])

    def test_names_stand_for_what_they_stood_for_ahead(self):
        script = (MAKE, ("then", "p", "p", ECHO, None), ("keep", "p", 1))
        self.assertEqual(behind(script), [("kept", 1, 1)])
        script = (MAKE, KEEP, ("then", "p", "p", ECHO, None))
        self.assertEqual(behind(script), [("kept", 0, 1), ("said", 1), ("kept", 1, None)])
        script = (MAKE, KEEP, ("all", "p", ("p", "p")))
        self.assertEqual(behind(script), [("kept", 0, 1), ("kept", 1, (1, 1))])


class Then(unittest.TestCase):
    def test_each_fate_with_each_script(self):
        for settle, told in ((KEEP, 1), (BREAK, "bad")):
            for kept, broken in itertools.product((None, (("echo",), ("give", 5))), repeat=2):
                for ahead in (True, False):
                    then = ("then", "p", "q", kept, broken)
                    script = (MAKE, then, settle) if ahead else (MAKE, settle, then)
                    taken = kept if settle == KEEP else broken
                    loop = done((*script, ("then", "q", "r", (), ())))
                    self.assertEqual([row for row in events(loop) if row[0] == "said"], [] if taken is None else [("said", told)])
                    fate = ("kept" if settle == KEEP else "broken", told) if taken is None else ("kept", 5)
                    self.assertEqual(loop.promise("q"), fate)
                    self.assertEqual(loop.promise("r"), ("kept", None))

    def test_a_micro_where_there_is_no_script(self):
        script = (MAKE, ("then", "p", "q", None, None), KEEP, ("say", "a"))
        self.assertEqual(events_of(script)[1:], [("kept", 0, 1), ("said", "a"), ("micro", 1), ("kept", 1, 1)])

    def test_its_faults(self):
        script = (MAKE, ("then", "p", "q", (("fail", "x"),), None), KEEP)
        self.assertEqual(behind(script), [("kept", 0, 1), ("broken", 1, "x"), ("unhandled", 1)])

    def test_an_empty_script_gives_none(self):
        self.assertEqual(behind((MAKE, ("then", "p", "q", None, ()), BREAK)), [("broken", 0, "bad"), ("kept", 1, None)])

    def test_it_may_wait(self):
        script = (*BOTH, ("then", "p", "r", (("wait", "q"), ("give", 9)), None), KEEP, ("post", 0, "x", (("keep", "q", 2),)))
        self.assertEqual(behind(script), [("kept", 0, 1), ("kept", 1, 2), ("kept", 2, 9)])


class Several(unittest.TestCase):
    def test_no_names(self):
        self.assertEqual(behind((("all", "q", ()),)), [("kept", 0, ())])
        self.assertEqual(behind((("each", "q", ()),)), [("kept", 0, ())])
        self.assertEqual(behind((("any", "q", ()),)), [("broken", 0, ()), ("unhandled", 0)])
        loop = done((("first", "q", ()),))
        self.assertEqual((events(loop), loop.promise("q")), ([("task", 0, 0, "least")], ("open",)))

    def test_one_name_twice(self):
        wanted = {"all": ("kept", 1, (1, 1)), "any": ("kept", 1, 1), "first": ("kept", 1, 1),
                  "each": ("kept", 1, (("kept", 1), ("kept", 1)))}
        for word in wanted:
            for script in ((MAKE, (word, "q", ("p", "p")), KEEP), (MAKE, KEEP, (word, "q", ("p", "p")))):
                rows = events_of(script)
                self.assertEqual(rows.count(("micro", 1)), 2)
                self.assertEqual(rows.count(wanted[word]), 1)
                self.assertEqual(len(rows), 5)
        script = (MAKE, ("any", "q", ("p", "p")), BREAK)
        self.assertIn(("broken", 1, ("bad", "bad")), behind(script))

    def test_all_broken_by_the_first_micro(self):
        script = (*promises("a", "b", "c"), ("all", "q", ("a", "b", "c")), ("break", "c", "x"), ("break", "a", "y"), ("keep", "b", 1))
        self.assertEqual(events_of(script)[1:], [
            ("broken", 2, "x"), ("broken", 0, "y"), ("kept", 1, 1), ("micro", 1), ("broken", 3, "x"), ("micro", 1), ("micro", 1),
            ("unhandled", 3),
        ])

    def test_any_of_broken_ones_in_the_order_of_names(self):
        script = (*promises("a", "b"), ("any", "q", ("a", "b")), ("break", "b", "x"), ("break", "a", "y"))
        self.assertEqual(behind(script), [("broken", 1, "x"), ("broken", 0, "y"), ("broken", 2, ("y", "x")), ("unhandled", 2)])

    def test_eight_names(self):
        names = tuple("abcdefgh")
        keeps = tuple([("keep", name, at) for at, name in enumerate(names)])
        script = (*promises(*names), ("all", "q", names), ("each", "r", names), *keeps[::-1])
        loop = done(script)
        self.assertEqual(loop.promise("q"), ("kept", tuple(range(8))))
        self.assertEqual(loop.promise("r"), ("kept", tuple([("kept", at) for at in range(8)])))

    def test_settled_otherwise(self):
        for word, row in itertools.product(("all", "any", "first", "each"), (("keep", "q", 5), ("break", "q", "no"))):
            script = (MAKE, (word, "q", ("p",)), row, ("then", "q", "r", (), ()), KEEP)
            rows = events_of(script)
            self.assertNotIn("again", [event[0] for event in rows])
            self.assertEqual([event for event in rows if event[:2] in (("kept", 1), ("broken", 1))], [
                ("kept", 1, 5) if row[0] == "keep" else ("broken", 1, "no")
            ])
            self.assertEqual(rows.count(("micro", 1)), 1)

    def test_too_deep(self):
        deepest = ((((),),),)
        for word, levels in (("all", 4), ("each", 3), ("each", 4)):
            worth = deepest if levels == 4 else deepest[0]
            loop = done((MAKE, ("keep", "p", worth), (word, "q", ("p",)), ("then", "q", "r", (), ())))
            self.assertEqual(loop.promise("q"), ("broken", "deep"))
        loop = done((MAKE, ("keep", "p", deepest[0]), ("all", "q", ("p",)), ("keep", "p", 1)))
        self.assertEqual(loop.promise("q"), ("kept", deepest))
        loop = done((MAKE, ("keep", "p", deepest[0][0]), ("each", "q", ("p",))))
        self.assertEqual(loop.promise("q"), ("kept", (("kept", deepest[0][0]),)))

    def test_reasons_too_deep(self):
        script = (("any", "a", ()), ("any", "b", ("a",)), ("any", "c", ("b",)), ("any", "d", ("c",)), ("any", "e", ("d",)))
        loop = done(script)
        self.assertEqual(loop.promise("d"), ("broken", ((((),),),)))
        self.assertEqual(loop.promise("e"), ("broken", "deep"))

    def test_any_and_first_of_the_deepest(self):
        deepest = ((((),),),)
        for word in ("any", "first"):
            loop = done((MAKE, ("keep", "p", deepest), (word, "q", ("p",))))
            self.assertEqual(loop.promise("q"), ("kept", deepest))

    def test_a_broken_one_amid_deep_ones(self):
        loop = done((*BOTH, ("keep", "p", ((((),),),)), BREAK, ("break", "q", "x"), ("all", "r", ("p", "q")), ("then", "r", "s", (), ())))
        self.assertEqual(loop.promise("r"), ("broken", "x"))

    def test_micros_of_one_settling_in_their_places(self):
        script = (MAKE, ("then", "p", "a", say("a"), None), ("all", "q", ("p",)), ("then", "p", "b", say("b"), None), KEEP)
        self.assertEqual([row for row in events_of(script) if row[0] == "micro"], [("micro", 1), ("micro", 2), ("micro", 3)])


class Unhandled(unittest.TestCase):
    def test_told_once(self):
        loop = loop_of((MAKE, BREAK), (), ())
        self.assertEqual([row for rows in steps(loop) for row in rows if row[1] == "unhandled"], [(0, "unhandled", 0)])

    def test_behind_the_micros(self):
        script = (MAKE, BREAK, ("micro", say("a")))
        self.assertEqual(behind(script), [("broken", 0, "bad"), ("said", "a"), ("unhandled", 0)])

    def test_in_the_order_in_which_they_broke(self):
        script = (*promises("a", "b", "c"), ("break", "c", "x"), ("break", "a", "x"), ("break", "b", "x"))
        self.assertEqual(behind(script)[3:], [("unhandled", 2), ("unhandled", 0), ("unhandled", 1)])

    def test_each_way_of_taking(self):
        ways = [
            ("then", "p", "q", (), ()), ("wait", "p"), ("run", "p"), ("follow", "q", "p"), ("all", "r", ("p",)), ("any", "r", ("p",)),
            ("first", "r", ("p",)), ("each", "r", ("p",)),
        ]
        for way in ways:
            for ahead in (True, False):
                taking = (("guard", (way,), (), ()),)
                if ahead:
                    script = (*BOTH, ("post", 0, "x", (BREAK,)), *taking)
                else:
                    script = (*BOTH, BREAK, *taking)
                rows = behind(script)
                self.assertIn(("broken", 0, "bad"), rows)
                self.assertNotIn(("unhandled", 0), rows, way)
                self.assertNotIn(("late", 0), rows, way)

    def test_taken_by_a_micro_ahead_of_the_telling(self):
        script = (MAKE, BREAK, ("micro", (("micro", (("then", "p", "q", (), ()),)),)))
        self.assertEqual(behind(script), [("broken", 0, "bad"), ("kept", 1, None)])

    def test_late_by_each_way(self):
        ways = {
            ("then", "p", "q", (), ()): [("late", 0), ("kept", 2, None)],
            ("wait", "p"): [("late", 0), ("fault", 1, "bad")],
            ("run", "p"): [("run", 0), ("late", 0), ("ran", 0), ("fault", 1, "bad")],
            ("follow", "q", "p"): [("late", 0), ("broken", 1, "bad"), ("unhandled", 1)],
            ("all", "r", ("p",)): [("late", 0), ("broken", 2, "bad"), ("unhandled", 2)],
            ("any", "r", ("p", "p")): [("late", 0), ("broken", 2, ("bad", "bad")), ("unhandled", 2)],
            ("first", "r", ("p",)): [("late", 0), ("broken", 2, "bad"), ("unhandled", 2)],
            ("each", "r", ("p",)): [("late", 0), ("kept", 2, (("broken", "bad"),))],
        }
        for way in ways:
            rows = behind((*BOTH, BREAK), (way,))
            self.assertEqual(rows, [("broken", 0, "bad"), ("unhandled", 0), *ways[way]])

    def test_late_once(self):
        rows = behind((MAKE, BREAK), (("then", "p", "q", (), ()), ("then", "p", "q", (), ()), ("wait", "p")))
        self.assertEqual(rows.count(("late", 0)), 1)
        self.assertEqual(rows.count(("unhandled", 0)), 1)

    def test_at_a_run(self):
        # Ahead of the run's end, and where it goes on.
        script = (*BOTH, KEEP, ("break", "q", "x"), ("run", "p"), ("say", "a"))
        self.assertEqual(behind(script)[2:], [("run", 0), ("unhandled", 1), ("ran", 0), ("said", "a")])
        script = (*BOTH, ("break", "q", "x"), ("post", 0, "x", (KEEP,)), ("run", "p"), ("say", "a"))
        self.assertEqual(behind(script)[1:], [("run", 0), ("unhandled", 1), ("kept", 0, 1), ("ran", 0), ("said", "a")])

    def test_amid_inner_turns(self):
        inner = (("break", "q", "x"), KEEP)
        script = (*BOTH, ("post", 0, "x", inner), ("run", "p"), ("then", "q", "r", (), ()))
        self.assertEqual(behind(script), [
            ("run", 0), ("broken", 1, "x"), ("kept", 0, 1), ("unhandled", 1), ("ran", 0), ("late", 1), ("kept", 2, None)
        ])

    def test_behind_a_stuck_run(self):
        script = (*BOTH, ("guard", (("run", "p"),), (("break", "q", "x"),), ()))
        self.assertEqual(behind(script), [("run", 0), ("stuck", 0), ("broken", 1, "x"), ("unhandled", 1)])

    def test_followers_are_told_for_themselves(self):
        script = (*promises("a", "b", "c"), ("follow", "a", "c"), ("follow", "b", "c"), ("break", "c", "x"))
        self.assertEqual(behind(script)[3:], [("unhandled", 0), ("unhandled", 1)])

    def test_kept_ones_are_never_told(self):
        self.assertEqual(behind((MAKE, KEEP), ()), [("kept", 0, 1)])


if __name__ == "__main__":
    unittest.main()
