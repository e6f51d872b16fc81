"""Works from outside: woven and weavings [24]."""

import copy
import time
import unittest

from loopcases import ECHO, MAKE, loop_of, say
from outsiders import CALLS, OUTSIDE, all_weavings, gone, plain_weavings, small_loops
from rankloop.errors import TooMany
from rankloop.journals import show_journal
from rankloop.loops import Loop
from rankloop.weavings import weavings, woven


def endless(**parts):
    """A loop that goes on for ever, a leap and a work each turn."""
    return loop_of((("every", 1, 0, "n", ()),), **parts)


class Woven(unittest.TestCase):
    def weave(self, loop, outside, weaving, **parts):
        """What is told; all that was handed in stays as it was."""
        before = (str(loop), copy.deepcopy(outside), list(weaving))
        told = woven(loop, outside, weaving, **parts)
        self.assertEqual((str(loop), outside, weaving), before)
        self.assertIs(told.__class__, list)
        return told

    def test_no_outside_works(self):
        for loop in small_loops().values():
            twin = loop.copy()
            twin.forget()
            twin.turns(60)
            self.assertEqual(self.weave(loop, [], []), twin.journal())

    def test_against_the_plain_words(self):
        for loop in small_loops().values():
            for outside in OUTSIDE.values():
                if len(outside) < 3:
                    for weaving in all_weavings(len(outside), 5):
                        for most in (0, 1, 3, 60):
                            self.assertEqual(self.weave(loop, outside, weaving, most=most), gone(loop, outside, weaving, most)[0])

    def test_by_hand(self):
        loop = loop_of(say("a"), say("b"))
        outside = [(0, "x", say("x")), (1, "y", say("y"))]

        def words(weaving, **parts):
            return [row[2] for row in self.weave(loop, outside, weaving, **parts) if row[1] == "said"]

        self.assertEqual(words([(0, 0), (0, 1)]), ["a", "b", "x", "y"])
        self.assertEqual(words([(0, 1), (1, 0)]), ["a", "b", "x", "y"])
        self.assertEqual(words([(2, 1), (2, 0)]), ["a", "b", "x", "y"])
        self.assertEqual(words([(2, 1), (3, 0)]), ["a", "b", "y", "x"])
        # Nothing is left behind two turns, so the next one comes, and only that one.
        self.assertEqual(words([(9, 1), (9, 0)]), ["a", "b", "y", "x"])
        self.assertEqual(words([(9, 0), (50, 1)]), ["a", "b", "x", "y"])
        self.assertEqual(words([(0, 0), (0, 1)], most=0), [])
        self.assertEqual(words([(0, 0), (0, 1)], most=3), ["a", "b", "x"])
        self.assertEqual(words([(3, 0), (3, 1)], most=2), ["a", "b"])

    def test_numbers_and_ranks(self):
        outside = [(2, "x", ()), (0, "y", ())]
        self.assertEqual(self.weave(Loop(), outside, [(0, 0), (0, 1)]), [(0, "task", 1, 0, "least"), (0, "task", 0, 2, "least")])
        self.assertEqual(self.weave(Loop(), outside, [(0, 1), (0, 0)]), [(0, "task", 0, 0, "least"), (0, "task", 1, 2, "least")])

    def test_names(self):
        loop = loop_of((("spend", 1),), (("stop", "x"), ("echo",)))
        outside = [(1, "x", ()), (1, "y", ())]
        self.assertEqual(self.weave(loop, outside, [(0, 0), (1, 1)]), [
            (0, "task", 0, 0, "least"), (1, "task", 1, 0, "least"), (1, "said", 1), (1, "task", 3, 1, "least")
        ])

    def test_the_default_is_60_turns(self):
        self.assertEqual(len(self.weave(endless(), [], [])), 1 + 59 * 2)
        self.assertEqual(self.weave(endless(), [], []), self.weave(endless(), [], [], most=60))
        self.assertEqual(len(self.weave(endless(), [], [], most=61)), 1 + 60 * 2)
        # One that comes when all turns are done isn't begun.
        outside = [(0, "x", say("x"))]
        self.assertEqual(self.weave(endless(), outside, [(60, 0)]), self.weave(endless(), [], []))
        self.assertIn((58, "said", "x"), self.weave(endless(), outside, [(59, 0)]))

    def test_its_own_journal_is_not_told(self):
        loop = loop_of(say("a"), say("b"))
        loop.turn()
        self.assertEqual(self.weave(loop, [], []), [(0, "task", 1, 0, "least"), (0, "said", "b")])

    def test_scripts_of_all_kinds(self):
        outside = [(0, "x", (MAKE, ("story", "q", (("wait", "p"), ("echo",))), ("run", "q"))), (0, "y", (("keep", "p", 3),))]
        told = self.weave(Loop(), outside, [(0, 0), (1, 1)])
        self.assertEqual([row[1:] for row in told], [
            ("task", 0, 0, "least"), ("run", 1), ("micro", 1), ("task", 2, 0, "least"), ("kept", 0, 3), ("micro", 1), ("said", 3),
            ("kept", 1, None), ("ran", 1),
        ])
        # A run that is told as stuck is a turn, so a work behind it comes late.
        told = self.weave(Loop(), outside, [(0, 0), (2, 1)])
        self.assertEqual([row[1] for row in told], ["task", "run", "micro", "stuck", "fault", "task", "kept", "micro", "said", "kept"])

    def test_by_name(self):
        self.assertEqual(woven(weaving=[(0, 0)], outside=[(0, "x", ())], loop=Loop(), most=1), [(0, "task", 0, 0, "least")])
        with self.assertRaises(TypeError):
            woven(Loop(), [], [], 1)

    def test_the_list_is_the_askers_own(self):
        loop = loop_of(say("a"))
        woven(loop, [], []).append("x")
        self.assertEqual(len(woven(loop, [], [])), 2)

    def test_what_a_def_raises_comes_out(self):
        def ask(told):
            raise ZeroDivisionError()

        loop = Loop(calls={"ask": ask})
        for ask_for in (lambda: woven(loop, [(0, "x", (("call", "ask"),))], [(0, 0)]), lambda: weavings(loop, [(0, "x", (("call", "ask"),))])):
            with self.assertRaises(ZeroDivisionError):
                ask_for()
            self.assertEqual(loop, Loop())


class Weavings(unittest.TestCase):
    def tell(self, loop, outside, **parts):
        """What is told; all that was handed in stays as it was."""
        before = (str(loop), copy.deepcopy(outside))
        told = weavings(loop, outside, **parts)
        self.assertEqual((str(loop), outside), before)
        self.assertIs(told.__class__, list)
        return told

    def look(self, loop, outside, most_turns):
        """Each unlike journal once, sorted by text, with the least weaving."""
        told = self.tell(loop, outside, most=100000)
        plain = plain_weavings(loop, outside, most_turns)
        self.assertEqual(told, sorted([(show_journal(journal), weaving) for journal, weaving in plain]))
        for row in told:
            self.assertIs(row.__class__, tuple)
            self.assertIs(row[1].__class__, list)
            self.assertEqual(show_journal(woven(loop, outside, row[1])), row[0])
        return told

    def test_against_all_weavings(self):
        for name, loop in small_loops().items():
            for word, outside in OUTSIDE.items():
                done = [gone(loop, outside, weaving)[1] for weaving in all_weavings(len(outside), 1)]
                if len(outside) < 3 or name in ("nothing", "one", "floods"):
                    # One more turn than are ever done.
                    self.look(loop, outside, max(done) + 1)

    def test_by_hand(self):
        told = self.tell(loop_of(say("a")), [(0, "x", say("x"))])
        self.assertEqual(told, [("0 task 0 0 least\n0 said a\n0 task 1 0 least\n0 said x", [(0, 0)])])
        told = self.tell(Loop(), [(1, "x", say("x")), (0, "y", say("y"))])
        self.assertEqual(told, [
            ("0 task 0 0 least\n0 said y\n0 task 1 1 least\n0 said x", [(0, 1), (0, 0)]),
            ("0 task 0 1 least\n0 said x\n0 task 1 0 least\n0 said y", [(0, 0), (1, 1)]),
            ("0 task 1 0 least\n0 said y\n0 task 0 1 least\n0 said x", [(0, 0), (0, 1)]),
        ])

    def test_no_outside_works(self):
        self.assertEqual(self.tell(Loop(), []), [("", [])])
        self.assertEqual(self.tell(loop_of(say("a")), []), [("0 task 0 0 least\n0 said a", [])])
        self.assertEqual(self.tell(endless(), []), [(show_journal(woven(endless(), [], [])), [])])

    def test_most_and_one_less(self):
        for loop, outside in ((small_loops()["three"], OUTSIDE["three"]), (Loop(), OUTSIDE["two"]), (loop_of(say("a")), [])):
            told = self.tell(loop, outside)
            self.assertEqual(self.tell(loop, outside, most=len(told)), told)
            for most in {len(told) - 1, len(told) // 2, 0}:
                with self.assertRaises(TooMany) as caught:
                    self.tell(loop, outside, most=most)
                self.assertEqual(caught.exception.most, most)
                self.assertIs(caught.exception.__class__, TooMany)

    def test_the_default_is_200(self):
        outside = [(0, "x", say("x")), (0, "y", say("y"))]
        with self.assertRaises(TooMany) as caught:
            self.tell(endless(), outside)
        self.assertEqual(caught.exception.most, 200)
        # Of one work there are 61 journals, one of them without it.
        self.assertEqual(len(self.tell(endless(), outside[:1])), 61)

    def test_more_than_sixty_turns(self):
        for loop in (endless(), loop_of(*[say("a")] * 70), loop_of((("call", "goes"),), calls=CALLS), endless(patience=(None, 2, 0))):
            for outside in (OUTSIDE["one"], OUTSIDE["low"], [(1, "x", (("stop", "n"), ("post", 0, "y", say("y"))))]):
                told = self.look(loop, outside, 60)
                self.assertLessEqual(max([turns for text, weaving in told for turns, number in weaving]), 60)

    def test_two_works_and_more_than_sixty_turns(self):
        outside = [(2, "x", say("x")), (2, "y", say("y"))]
        self.assertEqual([weaving for text, weaving in self.tell(loop_of(*[say("a")] * 70), outside)], [[(0, 0), (0, 1)]])
        self.assertEqual(len(self.look(endless(), outside, 60)), 3661)

    def test_behind_a_turn_that_was_broken_off(self):
        def ask(told):
            raise ZeroDivisionError()

        loop = loop_of((("guard", (("call", "ask"),), ECHO, ()),), calls={"ask": ask})
        with self.assertRaises(ZeroDivisionError):
            loop.turn()
        self.look(loop, OUTSIDE["two"], 6)
        self.look(loop, OUTSIDE["one"], 6)

    def test_lists_are_the_askers_own(self):
        loop, outside = small_loops()["three"], OUTSIDE["two"]
        told = weavings(loop, outside)
        for text, weaving in told:
            weaving.append("x")
        told.append("x")
        again = weavings(loop, outside)
        self.assertNotIn("x", again)
        self.assertEqual([weaving for text, weaving in again if "x" in weaving], [])
        self.assertEqual(len({id(weaving) for text, weaving in again}), len(again))

    def test_by_name(self):
        self.assertEqual(weavings(outside=[], loop=Loop(), most=1), [("", [])])
        with self.assertRaises(TypeError):
            weavings(Loop(), [], 1)

    def test_within_a_second(self):
        start = time.perf_counter()
        self.tell(small_loops()["three"], OUTSIDE["three"])
        with self.assertRaises(TooMany):
            self.tell(endless(), OUTSIDE["three"])
        self.tell(loop_of(*[say("a")] * 70), [(2, "x", ()), (2, "y", ()), (2, "z", ())])
        woven(endless(), OUTSIDE["three"], [(5, 0), (5, 1), (30, 2)])
        # Far less, and a slow machine needn't fail here.
        self.assertLess(time.perf_counter() - start, 5)


if __name__ == "__main__":
    unittest.main()
