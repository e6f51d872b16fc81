"""Which word is always ahead of which, however works come from outside [25]."""

import copy
import itertools
import time
import unittest

from loopcases import ECHO, MAKE, loop_of, said, say
from outsiders import CALLS, OUTSIDE, small_loops
from rankloop.ahead import always
from rankloop.aheadlooks import shows_always
from rankloop.errors import TooMany
from rankloop.loops import Loop
from samples import anything

WORDS = ("a", "b", "c", "x", "y", "z", "t", "never")


def forgotten(loop):
    twin = loop.copy()
    twin.forget()
    return twin


def by_turn(loop, first, second):
    """A loop behind a turn, and what is seen by it: None, "first" or "second"; None of no turn."""
    twin = forgotten(loop)
    if not twin.turn():
        return None
    words = [word for word in said(twin) if word in (first, second)]
    twin.forget()
    if not words:
        return twin, None
    return twin, "second" if words[0] == second else "first"


def posted(loop, work):
    twin = loop.copy()
    rank, name, script = work
    twin.post(script, rank=rank, name=name)
    return twin


def plain_always(loop, outside, first, second, most_events):
    """By the plain words, each row of events for itself: the set of states, and the least weaving by which it is seen."""
    states = set()
    shown = []
    goings = [(forgotten(loop), (), 0)]
    for events in range(most_events):
        behind = []
        for twin, weaving, done in goings:
            come = tuple(sorted([number for turns, number in weaving]))
            states.add((str(twin), come))
            left = [number for number in range(len(outside)) if number not in come]
            for number in left:
                behind.append((posted(twin, outside[number]), (*weaving, (done, number)), done))
            step = by_turn(twin, first, second)
            if step is not None and step[1] == "second":
                shown.append([*weaving, *[(done + 1, number) for number in left]])
            elif step is not None and step[1] is None:
                behind.append((step[0], weaving, done + 1))
        if shown:
            return "not", min(shown), len(states)
        if not behind:
            return "always", states, len(states)
        goings = behind
    return "open", None, len(states)


class Always(unittest.TestCase):
    def ask(self, loop, outside, first, second):
        """What is told; all that was handed in stays as it was."""
        before = (str(loop), copy.deepcopy(outside))
        told = always(loop, outside, first, second)
        self.assertEqual((str(loop), outside), before)
        self.assertIs(told.__class__, tuple)
        self.assertEqual((len(told), told[1].__class__), (2, list))
        return told

    def look(self, loop, outside, first, second):
        told = self.ask(loop, outside, first, second)
        word, wanted, many = plain_always(loop, outside, first, second, 16)
        self.assertEqual(told[0], word, (first, second))
        if word == "not":
            self.assertEqual(told[1], wanted)
            self.assertIs(shows_always(loop, outside, first, second, []), False)
            return told
        self.assertEqual(len(told[1]), len(wanted))
        self.assertEqual(set(told[1]), wanted)
        self.assertIn((str(forgotten(loop)), ()), told[1])
        for row in told[1]:
            self.assertEqual((row.__class__, row[0].__class__, row[1].__class__), (tuple, str, tuple))
            self.assertEqual(list(row[1]), sorted(set(row[1])))
        self.assertIs(shows_always(loop, outside, first, second, told[1]), True)
        return told

    def test_against_all_weavings(self):
        answers = {"always": 0, "not": 0}
        for name, loop in small_loops().items():
            for word, outside in OUTSIDE.items():
                pairs = itertools.product(WORDS, WORDS) if len(outside) < 2 else (("a", "b"), ("x", "y"), ("y", "x"), ("x", "x"), ("a", "z"), ("x", "b"))
                if len(outside) < 3 or name in ("nothing", "one"):
                    for first, second in pairs:
                        answers[self.look(loop, outside, first, second)[0]] += 1
        self.assertGreater(min(answers.values()), 100, answers)

    def test_by_hand(self):
        loop = loop_of(say("a"), say("b"))
        self.assertEqual(self.ask(loop, [], "a", "b"), ("always", [(str(loop), ())]))
        self.assertEqual(self.ask(loop, [], "b", "a"), ("not", []))
        outside = [(1, "x", say("x")), (0, "y", say("y"))]
        self.assertEqual(self.ask(loop, outside, "b", "a"), ("not", [(1, 0), (1, 1)]))
        self.assertEqual(self.ask(loop, outside, "a", "x")[0], "always")
        self.assertEqual(self.ask(loop, outside, "x", "y"), ("not", [(0, 1), (3, 0)]))
        self.assertEqual(self.ask(loop, outside, "y", "x"), ("not", [(0, 0), (3, 1)]))
        self.assertEqual(self.ask(Loop(), outside, "y", "x"), ("not", [(0, 0), (1, 1)]))

    def test_one_word_twice(self):
        loop = loop_of((), say("a"))
        self.assertEqual(self.look(loop, OUTSIDE["one"], "a", "a"), ("not", [(2, 0)]))
        self.assertEqual(self.look(loop, OUTSIDE["one"], "x", "x"), ("not", [(0, 0)]))
        self.assertEqual(self.look(loop, OUTSIDE["one"], "never", "never")[0], "always")

    def test_in_the_same_turn(self):
        self.assertEqual(self.look(loop_of(say("a", "b")), [], "a", "b")[0], "always")
        self.assertEqual(self.look(loop_of(say("a", "b")), [], "b", "a"), ("not", []))
        self.assertEqual(self.look(loop_of(say("a", "b", "a")), [], "b", "a"), ("not", []))
        self.assertEqual(self.look(loop_of((("micro", say("a")), ("say", "b"))), [], "b", "a")[0], "always")

    def test_what_was_said_before_it_is_asked(self):
        loop = loop_of(say("a"), say("b"))
        loop.turn()
        self.assertEqual(self.look(loop, [], "a", "b"), ("not", []))
        self.assertEqual(self.look(loop, [], "b", "a")[0], "always")

    def test_what_an_echo_says(self):
        loop = loop_of((MAKE, ("keep", "p", "a"), ("wait", "p"), ("echo",)), say("b"))
        self.assertEqual(self.look(loop, [], "a", "b")[0], "always")
        self.assertEqual(self.look(loop, [], "b", "a"), ("not", []))
        # What is kept or broken, or in a tuple, isn't said.
        loop = loop_of((MAKE, ("break", "p", "a"), ("make", "q"), ("keep", "q", ("a",)), ("wait", "q"), ("echo",)), say("b"))
        self.assertEqual(self.look(loop, [], "a", "b"), ("not", []))

    def test_fewest_events_then_least(self):
        # One coming and a turn are fewer than three turns.
        loop = loop_of((), (), say("b"))
        outside = [(2, "x", say("b")), (0, "y", (("say", "b"),))]
        self.assertEqual(self.look(loop, outside, "a", "b"), ("not", [(3, 0), (3, 1)]))
        loop = loop_of((), (), (), say("b"), patience=(None, None, 0))
        self.assertEqual(self.look(loop, outside, "a", "b"), ("not", [(0, 0), (1, 1)]))
        # At whichever turn it comes there are as many events.
        loop = loop_of((), ())
        self.assertEqual(self.look(loop, [(1, "x", say("b"))], "a", "b"), ("not", [(0, 0)]))
        outside = [(0, "x", ()), (0, "y", (("say", "b"),)), (0, "z", (("say", "b"),))]
        self.assertEqual(self.look(Loop(), outside, "a", "b"), ("not", [(0, 1), (1, 0), (1, 2)]))

    def test_four_outside_works(self):
        outside = [(0, "x", say("x")), (0, "y", say("y")), (0, "z", (("say", "z"),)), (0, "u", ())]
        self.assertEqual(self.look(Loop(), outside, "x", "z"), ("not", [(0, 2), (1, 0), (1, 1), (1, 3)]))
        outside = [(0, "x", ()), (0, "y", ()), (0, "z", (("stop", "w"),)), (0, "u", say("u"))]
        told = self.look(loop_of(say("a")), outside, "a", "u")
        self.assertEqual((told[0], len(told[1])), ("always", sum([len(list(itertools.permutations(range(4), many))) for many in range(5)])))

    def test_defs_are_asked_anew(self):
        loop = loop_of((("call", "tick"),), calls=CALLS)
        self.assertEqual(self.look(loop, OUTSIDE["one"], "tick", "x")[0], "always")
        self.assertEqual(self.look(loop, OUTSIDE["one"], "x", "tick"), ("not", [(1, 0)]))
        self.assertEqual(said(loop), [])

    def test_what_a_def_raises_comes_out(self):
        def ask(told):
            raise ZeroDivisionError()

        loop = loop_of((("call", "ask"),), calls={"ask": ask})
        with self.assertRaises(ZeroDivisionError):
            self.ask(loop, [], "a", "b")
        with self.assertRaises(ZeroDivisionError):
            shows_always(loop, [], "a", "b", [(str(loop), ())])

    def test_rows_are_the_askers_own(self):
        loop = loop_of(say("a"))
        always(loop, [], "a", "b")[1].append("x")
        self.assertEqual(always(loop, [], "a", "b"), ("always", [(str(loop), ())]))
        always(loop, [], "b", "a")[1].append("x")
        self.assertEqual(always(loop, [], "b", "a"), ("not", []))

    def test_by_name(self):
        self.assertEqual(always(second="b", first="a", outside=[], loop=loop_of(say("b"))), ("not", []))
        self.assertIs(shows_always(thing=[], second="b", first="a", outside=[], loop=Loop()), False)


class TooManyStates(unittest.TestCase):
    def refused(self, loop, outside, first, second):
        text = str(loop)
        with self.assertRaises(TooMany) as caught:
            always(loop, outside, first, second)
        self.assertIs(caught.exception.__class__, TooMany)
        self.assertEqual(caught.exception.most, 500)
        self.assertEqual(str(loop), text)

    def test_loops_that_never_end(self):
        for outside in (OUTSIDE["none"], OUTSIDE["one"], OUTSIDE["two"]):
            self.refused(loop_of((("every", 1, 0, "n", ()),)), outside, "never", "never")
            self.refused(loop_of((("call", "goes"),), calls=CALLS), outside, "never", "a")

    def test_found_sooner(self):
        loop = loop_of((("every", 1, 0, "n", say("b")),))
        self.assertEqual(always(loop, OUTSIDE["two"], "a", "b"), ("not", [(2, 0), (2, 1)]))
        # The first word ends each way in time.
        self.assertEqual(always(loop, [], "b", "a")[0], "always")
        self.assertEqual(always(loop, OUTSIDE["none"], "b", "b"), ("not", []))

    def test_a_ring_of_states(self):
        def again(told):
            return (("yield", 0), ("call", "again"))

        loop = loop_of((("call", "again"),), calls={"again": again})
        told = always(loop, [], "a", "b")
        self.assertEqual((told[0], len(told[1])), ("always", 2))
        self.assertIs(shows_always(loop, [], "a", "b", told[1]), True)

    def chain(self, many):
        """A loop of so many states, one behind the other, whose last turn says a word."""
        return loop_of(*[()] * (many - 1), say("b"))

    def test_just_500_and_one_more(self):
        # So many turns lead to as many states, each one more.
        loop = self.chain(500)
        self.assertEqual(always(loop, [], "a", "b"), ("not", []))
        told = always(loop, [], "b", "a")
        self.assertEqual((told[0], len(told[1])), ("always", 500))
        self.assertIs(shows_always(loop, [], "b", "a", told[1]), True)
        loop = self.chain(501)
        self.refused(loop, [], "a", "b")
        self.refused(loop, [], "b", "a")

    def test_states_by_fewer_events_alone_count(self):
        # Behind many comings there are more than 500 states, but a single turn shows it.
        outside = [(0, "x", ()), (0, "y", ()), (0, "z", ()), (0, "u", ())]
        self.refused(loop_of(*[()] * 20), outside, "a", "b")
        loop = loop_of(*[()] * 4, say("b"))
        word, weaving, many = plain_always(loop, outside, "a", "b", 16)
        self.assertLessEqual(many, 500)
        self.assertEqual(always(loop, outside, "a", "b"), ("not", weaving))

    def test_within_a_second(self):
        start = time.perf_counter()
        always(small_loops()["three"], OUTSIDE["two"], "never", "never")
        self.refused(loop_of((("every", 1, 0, "n", ()),)), OUTSIDE["two"], "never", "never")
        self.assertLess(time.perf_counter() - start, 5)


class Shows(unittest.TestCase):
    def look(self, loop, outside, first, second, thing):
        before = (str(loop), copy.deepcopy(outside), copy.deepcopy(thing))
        told = shows_always(loop, outside, first, second, thing)
        self.assertIs(told.__class__, bool)
        self.assertEqual((str(loop), outside, thing), before)
        return told

    def case(self):
        loop, outside = small_loops()["three"], OUTSIDE["three"]
        return loop, outside, always(loop, outside, "b", "c")[1]

    def test_rows_in_any_order(self):
        loop, outside, rows = self.case()
        self.assertGreater(len(rows), 10)
        self.assertIs(self.look(loop, outside, "b", "c", rows), True)
        self.assertIs(self.look(loop, outside, "b", "c", rows[::-1]), True)

    def test_a_row_otherwise(self):
        loop, outside, rows = self.case()
        other = (str(loop_of(say("q"))), ())
        for at, row in enumerate(rows):
            ahead, behind = rows[:at], rows[at + 1:]
            text, numbers = row
            for changed in ([], [row, row], [(text + " ", numbers)], [(text + "\n", numbers)], [("", numbers)], [(text, (*numbers, 9))], [(text, numbers[1:] or (7,))],
                            [(text, numbers[::-1] or (0,))] if len(numbers) != 1 else [], [other], [row, other], [row, (text, (0, 1, 2, 3))],
                            [(text, list(numbers))], [[text, numbers]], [(text, numbers, ())], [(text,)], [(numbers, text)], [text], [None],
                            [(text, tuple([float(number) for number in numbers]) or (0.0,))], [(text.encode(), numbers)]):
                self.assertIs(self.look(loop, outside, "b", "c", [*ahead, *changed, *behind]), False, (row, changed))

    def test_truths_in_the_place_of_numbers(self):
        loop, outside = loop_of(say("a")), OUTSIDE["one"]
        rows = always(loop, outside, "a", "x")[1]
        self.assertEqual([numbers for text, numbers in rows], [(), (0,)])
        self.assertIs(self.look(loop, outside, "a", "x", [rows[0], (rows[1][0], (False,))]), False)
        self.assertIs(self.look(loop, outside, "a", "x", [rows[0], (rows[1][0], (0.0,))]), False)

    def test_of_others(self):
        loop, outside, rows = self.case()
        for first, second in (("never", "x"), ("never", "never"), ("c", "b"), ("b", "b"), ("x", "c"), ("y", "c")):
            self.assertIs(self.look(loop, outside, first, second, rows), False, (first, second))
        self.assertIs(self.look(loop, outside[:2], "b", "c", rows), False)
        self.assertIs(self.look(loop, outside[::-1], "b", "c", rows), False)
        self.assertIs(self.look(small_loops()["one"], outside, "b", "c", rows), False)
        # Of loops that are alike but for the journal the same rows tell.
        self.assertIs(self.look(forgotten(loop), outside, "b", "c", rows), True)

    def test_where_the_second_is_said_first(self):
        loop = loop_of(say("a"), say("b"))
        behind = loop.copy()
        behind.turn()
        rows = [(str(loop), ()), (str(forgotten(behind)), ())]
        self.assertIs(self.look(loop, [], "never", "b", rows), False)
        self.assertIs(self.look(loop, [], "b", "never", rows), True)
        self.assertIs(self.look(loop, [], "b", "b", rows), False)

    def test_no_row_that_is_not_come_to(self):
        loop = loop_of(say("a"), say("b"))
        behind = loop.copy()
        behind.turn()
        # Behind the first turn the first word was said.
        self.assertIs(self.look(loop, [], "a", "b", [(str(loop), ())]), True)
        self.assertIs(self.look(loop, [], "a", "b", [(str(loop), ()), (str(forgotten(behind)), ())]), False)
        self.assertIs(self.look(loop, [], "a", "b", []), False)

    def test_of_anything(self):
        loop, outside, rows = self.case()
        for thing in [*anything(), ("always", rows), tuple(rows), {row: True for row in rows}, [rows], ("not", []), "loop"]:
            self.assertIs(self.look(loop, outside, "b", "c", thing), False)
            self.assertIs(self.look(loop, outside, "b", "c", [*rows, thing]), False)
            self.assertIs(self.look(loop, outside, "b", "c", [thing, *rows[1:]]), False)
            self.assertIs(self.look(loop, outside, "b", "c", [*rows[1:], (rows[0][0], thing)]), thing == ())
            self.assertIs(self.look(loop, outside, "b", "c", [*rows[1:], (thing, rows[0][1])]), False)


if __name__ == "__main__":
    unittest.main()
