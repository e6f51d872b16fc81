"""Judged journals, and journals as texts [14, 23, 24]."""

import copy
import unittest

from loopcases import ECHO, MAKE, done, loop_of, say
from rankloop.errors import Busy
from rankloop.journals import first_wrong, show_journal
from rankloop.loops import Loop
from samples import anything
from test_copies import full_loop
from test_starvelooks import otherwise

# A loop whose journal has each kind of row.
EVERYTHING = (
    MAKE, ("make", "q"), ("break", "q", "bad"), ("keep", "p", (-5, None, ("x", ()))), ("keep", "p", 1), ("idle", None, "i", say("low")),
    ("after", 7, 1, "t", (("guard", (("wait", "q"),), ECHO, ()),)), ("then", "p", "r", ECHO, None), ("micro", ()), ("micro", (("fail", "odd"),)), ("micro", ()),
    ("make", "s"), ("post", 1, "x", (("keep", "s", None),)), ("run", "s"), ("make", "n"), ("run", "n"),
)


def everything():
    return loop_of(EVERYTHING, say("a"), flood=2, patience=(None, 0, None))


KINDS = {"task", "idle", "micro", "leap", "said", "kept", "broken", "again", "fault", "unhandled", "late", "flood", "run", "ran", "stuck"}


def next_events(loop, turns=400):
    """What a copy of a loop adds by its next turns."""
    twin = loop.copy()
    before = len(twin.journal())
    twin.turns(turns)
    return twin.journal()[before:]


class FirstWrong(unittest.TestCase):
    def judge(self, loop, journal, **parts):
        """What is told; the loop and the journal stay as they were."""
        text, before = str(loop), copy.deepcopy(journal)
        told = first_wrong(loop, journal, **parts)
        self.assertEqual(str(loop), text)
        self.assertEqual(journal, before)
        self.assertIs(told.__class__, int if told is not None else None.__class__)
        return told

    def loops(self):
        told = [everything(), full_loop(), Loop(), loop_of(say("a")), loop_of((("every", 3, 0, "n", ECHO),)), loop_of(())]
        for many in (1, 2, 3, 5):
            for loop in (everything(), full_loop()):
                loop.turns(many)
                told.append(loop)
        return told

    def test_all_kinds_are_there(self):
        loop = everything()
        loop.turns()
        self.assertEqual({row[1] for row in loop.journal()}, KINDS)

    def test_the_very_journal(self):
        for loop in self.loops():
            self.assertIsNone(self.judge(loop, next_events(loop)))
            for turns in (0, 1, 2, 3, 7):
                self.assertIsNone(self.judge(loop, next_events(loop, turns), turns=turns))

    def test_the_default_is_400_turns(self):
        loop = loop_of((("every", 3, 0, "n", ()),))
        self.assertIsNone(self.judge(loop, next_events(loop, 400)))
        self.assertEqual(self.judge(loop, next_events(loop, 399)), len(next_events(loop, 399)))
        self.assertEqual(self.judge(loop, next_events(loop, 401)), len(next_events(loop, 400)))

    def test_its_own_journal_is_no_matter(self):
        loop = loop_of(say("a"), say("b"))
        loop.turn()
        self.assertEqual(self.judge(loop, loop.journal()), 0)
        loop.forget()
        self.assertIsNone(self.judge(loop, [(0, "task", 1, 0, "least"), (0, "said", "b")]))

    def test_shorter_longer_and_empty(self):
        for loop in self.loops():
            events = next_events(loop, 9)
            for many in range(len(events)):
                self.assertEqual(self.judge(loop, events[:many], turns=9), many)
            for more in ([(0, "said", "a")], [None], [events], events[-1:], [(), ()]):
                if more:
                    self.assertEqual(self.judge(loop, events + more, turns=9), len(events))
            self.assertEqual(self.judge(loop, [], turns=9), 0 if events else None)

    def test_more_and_fewer_turns(self):
        loop = everything()
        for turns in range(8):
            for other in range(8):
                mine, theirs = next_events(loop, turns), next_events(loop, other)
                told = None if len(mine) == len(theirs) else min(len(mine), len(theirs))
                self.assertEqual(self.judge(loop, mine, turns=other), told)

    def test_no_turns(self):
        loop = everything()
        self.assertIsNone(self.judge(loop, [], turns=0))
        self.assertEqual(self.judge(loop, next_events(loop), turns=0), 0)
        self.assertEqual(self.judge(loop, 5, turns=0), 0)

    def test_an_event_otherwise(self):
        loop = everything()
        text = str(loop)
        events = next_events(loop)
        for at, event in enumerate(events):
            others = [*otherwise(event), event[:-1], (*event, None)]
            for place in range(len(event)):
                parts = [part for part in ("x", "said", 99, -1, None, (), (event[place],)) if part != event[place]]
                others.extend([(*event[:place], part, *event[place + 1:]) for part in parts])
            for other in others:
                self.assertEqual(first_wrong(loop, [*events[:at], other, *events[at + 1:]]), at, (event, other))
            self.assertEqual(first_wrong(loop, events[:at] + events[at + 1:]), self.first_unlike(events, at))
        self.assertEqual(str(loop), text)

    def first_unlike(self, events, out):
        """Where a journal without this event goes wrong: it may be like the one behind it."""
        rest = events[:out] + events[out + 1:]
        return [at for at, event in enumerate(events) if at == len(rest) or rest[at] != event][0]

    def test_truths_and_floats_within_tuples(self):
        loop = loop_of((MAKE, ("keep", "p", (1, 0, (1, None)))))
        good = [(0, "task", 0, 0, "least"), (0, "kept", 0, (1, 0, (1, None)))]
        self.assertIsNone(self.judge(loop, good))
        for worth in ((True, 0, (1, None)), (1, False, (1, None)), (1, 0, (True, None)), (1, 0, (1.0, None)), (1, 0, [1, None]), [1, 0, (1, None)],
                      (1, 0, (1, False)), (1, 0, (1,)), (1, 0, (1, None, None))):
            self.assertEqual(self.judge(loop, [good[0], (0, "kept", 0, worth)]), 1, worth)
        for event in ((False, "task", 0, 0, "least"), (0, "task", False, 0, "least"), (0, "task", 0, 0.0, "least"), [0, "task", 0, 0, "least"]):
            self.assertEqual(self.judge(loop, [event, good[1]]), 0, event)

    def test_events_of_anything(self):
        loop = loop_of(say("a"))
        events = next_events(loop)
        for thing in anything():
            self.assertEqual(self.judge(loop, [thing]), 0)
            self.assertEqual(self.judge(loop, [events[0], thing]), 1)
            self.assertEqual(self.judge(loop, [*events, thing]), 2)

    def test_no_lists(self):
        for loop in (Loop(), loop_of(say("a"))):
            for thing in [*anything(), tuple(next_events(loop)), loop, str(loop)]:
                if not isinstance(thing, list):
                    self.assertEqual(self.judge(loop, thing), 0, thing)

    def test_defs_are_asked_anew(self):
        asked = []

        def ask(told):
            asked.append(told)
            return say("a", "b")

        loop = loop_of((("call", "ask"),), calls={"ask": ask})
        good = [(0, "task", 0, 0, "least"), (0, "said", "a"), (0, "said", "b")]
        self.assertIsNone(self.judge(loop, good))
        self.assertEqual(self.judge(loop, good[:2]), 2)
        self.assertEqual(asked, [None, None])
        loop.turns()
        self.assertEqual((loop.journal(), asked), (good, [None] * 3))

    def test_what_a_def_raises_comes_out(self):
        error = ZeroDivisionError()

        def ask(told):
            raise error

        loop = loop_of((("call", "ask"),), calls={"ask": ask})
        text = str(loop)
        with self.assertRaises(ZeroDivisionError) as caught:
            first_wrong(loop, [])
        self.assertIs(caught.exception, error)
        self.assertEqual(str(loop), text)
        # A turn that was broken off is done as ever.
        with self.assertRaises(ZeroDivisionError):
            loop.turn()
        self.assertIsNone(self.judge(loop, [(0, "fault", 0, "out")]))

    def test_a_loop_that_is_busy(self):
        told = []

        def ask(worth):
            with self.assertRaises(Busy):
                first_wrong(loop, [])
            told.append(loop.journal())
            return ()

        loop = loop_of((("call", "ask"),), calls={"ask": ask})
        loop.turns()
        self.assertEqual(told, [[(0, "task", 0, 0, "least")]])

    def test_names(self):
        loop = loop_of(say("a"))
        self.assertEqual(first_wrong(journal=[], loop=loop, turns=1), 0)
        with self.assertRaises(TypeError):
            first_wrong(loop, [], 1)


class ShowJournal(unittest.TestCase):
    def test_each_kind(self):
        rows = {
            (0, "task", 12, 5, "overdue"): "0 task 12 5 overdue", (7, "task", 0, 0, "least"): "7 task 0 0 least",
            (3, "idle", 4, None): "3 idle 4 -", (3, "idle", 4, 17): "3 idle 4 17", (100, "micro", 2): "100 micro 2",
            (9, "leap", 3): "9 leap 3", (0, "said", "hello"): "0 said hello", (0, "said", None): "0 said -", (0, "said", -12): "0 said -12",
            (0, "said", ()): "0 said < >", (0, "kept", 1, (1, None, ("x", -3))): "0 kept 1 < 1 - < x -3 > >",
            (0, "broken", 2, "bad"): "0 broken 2 bad", (0, "broken", 2, ("a", "b")): "0 broken 2 < a b >", (5, "again", 0): "5 again 0",
            (5, "fault", 3, "unknown"): "5 fault 3 unknown", (5, "unhandled", 1): "5 unhandled 1", (5, "late", 1): "5 late 1",
            (5, "flood", 900): "5 flood 900", (5, "run", 0): "5 run 0", (5, "ran", 0): "5 ran 0", (5, "stuck", 0): "5 stuck 0",
        }
        for row, text in rows.items():
            self.assertEqual(show_journal([row]), text)
        self.assertEqual(show_journal(list(rows)), "\n".join(rows.values()))
        self.assertEqual({row[1] for row in rows}, KINDS)

    def test_no_events(self):
        self.assertEqual(show_journal([]), "")
        self.assertEqual(show_journal(journal=Loop().journal()), "")

    def test_of_a_loop(self):
        loop = done((MAKE, ("keep", "p", (1, "a")), ("say", "x")))
        self.assertEqual(show_journal(loop.journal()), "0 task 0 0 least\n0 kept 0 < 1 a >\n0 said x")

    def test_unlike_ones_have_unlike_texts(self):
        journals = [[], [(0, "said", None)], [(0, "said", ())], [(0, "said", (None,))], [(0, "said", ((),))], [(0, "said", 1)], [(0, "said", (1,))],
                    [(0, "said", "a")], [(0, "said", ("a",))], [(0, "said", -1)], [(0, "said", (None, 1))], [(0, "said", 11)], [(1, "said", 1)],
                    [(0, "said", 1), (0, "said", 1)], [(0, "said", (1, 1))], [(0, "said", (1,)), (0, "said", 1)], [(0, "said", ((1,), 1))]]
        loop = everything()
        while loop.turn():
            journals.append(loop.journal())
        self.assertEqual(len({show_journal(journal) for journal in journals}), len(journals))

    def test_the_list_is_unchanged(self):
        loop = everything()
        loop.turns()
        journal = loop.journal()
        show_journal(journal)
        self.assertEqual(journal, loop.journal())


if __name__ == "__main__":
    unittest.main()
