"""Loops read from their texts, and loops cut anywhere [26]."""

import random
import re
import unittest

from loopcases import ECHO, MAKE, events, loop_of, say
from rankloop.errors import NoText
from rankloop.looptexts import read_loop
from rankloop.loops import Loop
from rankloop.scripts import is_script
from samples import anything
from test_copies import ALIKE, UNLIKE, full_loop
from test_plain_rule import CALLS, NAMES, WORKS, Maker, StoryMaker, turn_of

SIGNS = "0123456789 -<>()[],'abkpqrwz\n"
WORDS = ("0", "1", "2", "3", "-", "-1", "9", "p", "q", "kept", "broken", "open", "follows", "whole", "due", "spent", "do", "part", "last", "< >",
         "work", "then", "gather", "follow", "settle", "9" * 5000, "1000000000", "01", "-0", "+1", "A", "abcdefghi", "event", "line", "None", "()",
         "'p'", "None,", "0,", "1,", "'kept',", "(1,", "2)", "('open',)", "True")


def chance_loop(seed, kind=Maker):
    """A loop by chance, and what it was made with."""
    maker = kind(seed)
    chance = maker.chance
    ranks = chance.randrange(1, 7)
    patience = chance.choice([None, [chance.choice((None, 0, 1, 2)) for _ in range(ranks)]])
    loop = Loop(ranks=ranks, patience=patience, flood=chance.choice((1, 2, 3, 100)), deep=chance.choice((1, 2, 8)), calls=CALLS)
    scripts = [maker.script(4) for _ in range(chance.randrange(1, 5))]
    scripts[0] = (*[("make", name) for name in NAMES], *scripts[0])
    for script in scripts:
        if is_script(script):
            loop.post(script, rank=chance.randrange(ranks), name=chance.choice(WORKS))
    return loop, maker, ranks


def otherwise(text, chance):
    """A text with a sign, a word or a row otherwise."""
    rows = text.split("\n")
    at, other = chance.randrange(len(rows)), chance.randrange(len(rows))
    place = chance.randrange(len(text))
    words = rows[at].split(" ")
    word = chance.randrange(len(words))
    kind = chance.randrange(8)
    if kind == 0:
        return text[:place] + chance.choice(SIGNS) + text[place + 1:]
    if kind == 1:
        return text[:place] + text[place + 1:]
    if kind == 2:
        return text[:place] + chance.choice(SIGNS) + text[place:]
    if kind == 3:
        rows[at:at + 1] = chance.choice(([], [rows[at]] * 2))
    if kind == 4:
        rows[at], rows[other] = rows[other], rows[at]
    if kind == 5:
        words[word] = chance.choice(WORDS)
    if kind == 6:
        words[word] = chance.choice(words)
    if kind == 7:
        words[word:word + 1] = chance.choice(([], [words[word]] * 2))
    if kind > 4:
        rows[at] = " ".join(words)
    return "\n".join(rows)


class ReadLoop(unittest.TestCase):
    def look(self, loop, turns=6):
        """The text of a loop is read as an equal one, which goes on alike."""
        text = str(loop)
        twin = read_loop(text, calls=loop.state.setup.calls)
        self.assertIs(twin.__class__, Loop)
        self.assertEqual(twin, loop)
        self.assertEqual(str(twin), text)
        self.assertEqual(told_of(twin), told_of(loop))
        mine = loop.copy()
        for _ in range(turns):
            self.assertEqual(turn_of(twin), turn_of(mine))
            self.assertEqual(str(twin), str(mine))
        self.assertEqual(twin, mine)
        self.assertEqual(str(loop), text)

    def refused(self, thing):
        with self.assertRaises(NoText) as caught:
            read_loop(thing)
        self.assertIs(caught.exception.__class__, NoText)
        row = caught.exception.row
        self.assertIs(row.__class__, int)
        self.assertTrue(0 <= row < (len(thing.split("\n")) if isinstance(thing, str) else 1))

    def test_loops_of_every_kind(self):
        for groups in (UNLIKE, ALIKE):
            for name in groups:
                for loop in groups[name]():
                    self.look(loop)

    def test_a_loop_with_something_of_everything(self):
        loop = full_loop()
        for _ in range(40):
            self.look(loop)
            self.look(forgotten(loop))
            loop.turn()

    def test_at_the_limits(self):
        deep = (((("a",), -10 ** 9),), None, 10 ** 9)
        loops = [
            Loop(ranks=1), Loop(ranks=6, patience=[9, 0, None, 1, 2, 3], flood=1000, deep=20), Loop(flood=1, deep=1), loop_of((("echo",),) * 200),
            loop_of((MAKE, ("keep", "p", (1,) * 20), ("wait", "p"), ("echo",))), loop_of((MAKE, ("keep", "p", deep), ("micro", (("wait", "p"),)))),
            loop_of((("micro", (("micro", (("micro", (("micro", ()),)),)),)),)), loop_of(*[(("spend", 1000),) * 200] * 8),
            loop_of((("every", 1000, 0, "abcdefgh", ()), ("idle", 1000, "a", ()))), loop_of((("micro", ECHO),) * 100, flood=1),
            loop_of((*[("make", name) for name in "abcdefgh"], ("each", "q", tuple("abcdefgh")), ("first", "r", ()), ("keep", "c", 1))),
        ]
        for loop in loops:
            self.look(loop)
            for _ in range(8):
                loop.turn()
                self.look(loop)
        self.assertGreater(max([loop.now() for loop in loops]), 10 ** 6)

    def test_a_little_beyond_the_limits(self):
        for loop in (Loop(ranks=7), Loop(flood=1001), Loop(deep=21), Loop(patience=(10, 11, None))):
            self.look(loop)

    def test_faults_untold(self):
        loop = loop_of((MAKE, ("make", "q"), ("break", "q", "a"), ("break", "p", "b"), ("micro", ()), ("micro", ECHO)), flood=1)
        loop.turn()
        self.assertEqual(list(loop.state.book.untold), [1, 0])
        self.look(loop)
        twin = read_loop(str(loop))
        twin.turn()
        self.assertEqual(events(twin)[-2:], [("unhandled", 1), ("unhandled", 0)])

    def test_stories_that_wait_are_found_by_cancel(self):
        loop = loop_of((MAKE, ("story", "q", (("guard", (("wait", "p"),), ECHO, say("last")),))))
        loop.turn()
        for behind in ((), (("keep", "p", 1),)):
            twin = read_loop(str(loop))
            twin.post((("cancel", "q"), *behind))
            twin.turns()
            self.assertEqual([row for row in events(twin) if row[0] == "said"], [("said", "cancel"), ("said", "last")])

    def test_rows_of_followers(self):
        names = "abcdefgh"
        follows = tuple([("follow", name, other) for name, other in zip(names, names[1:])])
        loop = loop_of((*[("make", name) for name in names], *follows), (("follow", "h", "a"),))
        loop.turn()
        self.look(loop)
        twin = read_loop(str(loop))
        twin.turn()
        self.assertEqual(twin.promise("a"), ("broken", "ring"))

    def test_idle_works_have_their_dues(self):
        loop = loop_of((("idle", 3, "a", ECHO), ("idle", 2, "b", ECHO)), (("spend", 5),), ())
        loop.turn()
        twin = read_loop(str(loop))
        for _ in range(2):
            twin.turn()
        self.assertEqual(twin.lines(), [[], [], ["b", "a"]])

    def test_defs_that_are_handed_in(self):
        loop = loop_of((("call", "ask"),), calls={"ask": lambda told: say("mine")})
        text = str(loop)
        for calls, said in (({"ask": lambda told: say("other")}, ("said", "other")), ({}, ("fault", 0, "unknown")), (None, ("fault", 0, "unknown"))):
            twin = read_loop(text, calls=calls)
            twin.turns()
            self.assertEqual(events(twin)[-1], said)
        twin = read_loop(text)
        self.assertEqual(twin, loop)
        twin.turns()
        self.assertEqual(events(twin)[-1], ("fault", 0, "unknown"))
        calls = {"ask": lambda told: ()}
        twin = read_loop(text, calls=calls)
        calls.clear()
        twin.turns()
        self.assertEqual(events(twin), [("task", 0, 0, "least")])

    def test_a_turn_that_was_broken_off(self):
        loop = loop_of((("micro", say("m")), ("micro", (("guard", (("call", "odd"),), ECHO, ()),)), ("micro", say("n"))), calls=CALLS, flood=2)
        self.assertEqual(turn_of(loop), "odd")
        self.look(loop)
        twin = read_loop(str(loop), calls=CALLS)
        self.assertIs(twin.turn(), True)
        self.assertEqual(events(twin)[-5:], [("micro", 2), ("said", "out"), ("flood", 1), ("micro", 3), ("said", "n")])

    def test_by_chance(self):
        for seed in range(150):
            loop, maker, ranks = chance_loop(seed)
            for _ in range(8):
                self.look(loop, 3)
                turn_of(loop)

    def test_texts_otherwise(self):
        answers = {"read": 0, "refused": 0}
        for seed in range(400):
            chance = random.Random(seed)
            loop, maker, ranks = chance_loop(seed)
            for _ in range(chance.randrange(6)):
                turn_of(loop)
            text = str(loop)
            for _ in range(12):
                self.judge(otherwise(text, chance), answers)
        self.assertGreater(min(answers.values()), 500, answers)

    def judge(self, text, answers):
        """Either a loop of just this text, or NoText; such a loop goes on like any other one."""
        try:
            loop = read_loop(text, calls=CALLS)
        except NoText:
            answers["refused"] += 1
            self.refused(text)
            return
        answers["read"] += 1
        self.assertEqual(str(loop), text)
        for _ in range(12):
            if turn_of(loop) is False:
                break
            self.assertEqual(read_loop(str(loop), calls=CALLS), loop)

    def test_each_row_and_each_sign_of_one_text(self):
        loop = full_loop()
        loop.turns(5)
        text = str(loop)
        answers = {"read": 0, "refused": 0}
        rows = text.split("\n")
        for at in range(len(rows)):
            self.judge("\n".join(rows[:at] + rows[at + 1:]), answers)
            self.judge("\n".join(rows[:at + 1] + rows[at:]), answers)
            self.judge("\n".join(rows[:at] + [""] + rows[at:]), answers)
        for at in range(len(text)):
            for sign in ("", "0", " ", "-a(),<'\n"[at % 8]):
                self.judge(text[:at] + sign + text[at + 1:], answers)
        self.assertGreater(min(answers.values()), 100, answers)

    def test_wrong_texts(self):
        good = str(Loop(ranks=1))
        self.assertEqual(read_loop(good), Loop(ranks=1))
        for text in ("", "\n", " ", good + "\n", "\n" + good, good + " ", " " + good, good.replace(" ", "  "), good.upper(), good + "\n" + good,
                     good.replace("\n", "\r\n"), good.replace("\n", ";"), good[:-1], good.replace("(", "<").replace(")", ">"), good.replace("(", "["),
                     "<" * 100000, ">" * 1000, "< " * 50000 + "> " * 50000, "(" * 100000, ")" * 1000, "(" * 50000 + ")" * 50000, "loop", "loop ()",
                     good.replace("100", "9" * 5000), good.replace("100", "-1"), good.replace("100", "True"), good.replace("100", "+100"),
                     good.replace("100", "0100"), good.replace("None", "-"), good.replace(",)", ")"), good.replace(",)", ", )"), good.replace("None", "none"),
                     good.replace("100", "'100'"), good.replace("\n", "\n\n"), good.replace("loop", "'loop'"), good.replace(" ", "\t")):
            self.refused(text)

    def test_many_brackets_within_one_another(self):
        # Deeper than any script or worth, in the place of each word of a text.
        loop = full_loop()
        loop.turns(5)
        many = "(" * 5000 + "1" + ",)" * 5000
        rows = str(loop).split("\n")
        for at, row in enumerate(rows):
            words = list(re.finditer(r"[a-zN']+|-?[0-9]+", row))
            for place in (0, 1, 2, len(words) // 2, len(words) - 1):
                if place < len(words):
                    found = words[place]
                    self.refused("\n".join([*rows[:at], row[:found.start()] + many + row[found.end():], *rows[at + 1:]]))

    def test_no_texts(self):
        for thing in [*anything(), Loop(), str(Loop()).encode(), [str(Loop())]]:
            with self.assertRaises(NoText) as caught:
                read_loop(thing)
            if not isinstance(thing, str):
                self.assertEqual(caught.exception.row, 0)

    def test_by_name(self):
        self.assertEqual(read_loop(calls=None, text=str(Loop())), Loop())
        with self.assertRaises(TypeError):
            read_loop(str(Loop()), {})


class Refused(unittest.TestCase):
    """Texts of states to which nothing leads, and from which a loop couldn't go on."""

    def refuse(self, loop, *changes):
        text = str(loop)
        self.assertEqual(read_loop(text), loop)
        for old, new in changes:
            self.assertIn(old, text)
            with self.assertRaises(NoText, msg=(old, new)):
                read_loop(text.replace(old, new, 1))

    def test_works(self):
        loop = loop_of((("yield", 0), ("echo",)))
        loop.turn()
        loop.forget()
        work = "(0, 'work', (('echo',),), None, None, (), None)"
        self.assertIn(f"line 0 {work}\nline\nline", str(loop))
        self.refuse(loop, ("line 0", "line None"), ("line 0", "line -1"), ("line 0 ", "line "), ("\nline\n", "\nline 0\n"), ("\nline\n", "\n"), (work, f"{work}{work}"),
                    (work, ""), ("(0, 'work'", "(1, 'work'"), ("(0, 'work'", "(-1, 'work'"), ("(0, 'work'", "(0, 'Work'"), ("(0, 'work'", "(0, work"),
                    ("echo", "ecko"), ("(('echo',),)", "(('echo'),)"), ("(('echo',),)", "None"), ("None, None, (), None)", "None, 0, (), None)"),
                    ("None, None, (), None)", "None, None, (), -1000000001)"), ("(), None)", "None)"), ("(), None)", "(), None, 0)"), ("(), None)", "None, None)"),
                    ("(), None)", "(('do', ()),), None)"), ("(), None)", "(('last', 1),), None)"), ("(), None)", "((),), None)"))
        # What is left of a script with nothing in it is the one around it.
        self.refuse(loop, (work, "(0, 'work', (), None, None, (('do', (('echo',),)),), None)"))
        self.assertEqual(read_loop(str(loop).replace("(('echo',),), None", "(), None")).lines(), [["work"], [], []])

    def test_works_that_have_not_begun(self):
        loop = loop_of(ECHO, (("story", "q", ECHO), ("micro", ())), flood=1)
        loop.turns(2)
        loop.post(ECHO, name="a")
        self.refuse(loop, ("(4, 'a'", "(4, None"), ("(('echo',),), None, None)", "(('echo',),), None, 0)"), ("(('echo',),), None, None)", "(('echo',),), None)"),
                    ("(('echo',),), None, None)", "(('echo',),), None, None, ())"), ("(4, 'a'", "(5, 'a'"), ("(('echo',),), None, None)", "(('echo',),), 'A', None)"))

    def test_timers_and_idle_works(self):
        loop = loop_of((("after", 3, 0, "a", ()), ("every", 4, 0, "b", ()), ("idle", None, "c", ()), ("idle", 2, "d", ())))
        loop.turn()
        self.refuse(loop, ("timer 3", "timer 9"), ("timer 3", "timer None"), ("timer 4 2 4", "timer 4 1 4"), ("timer 4 2 4", "timer 4 2 0"),
                    ("timer 3 1 None 0", "timer 3 1 None 3"), ("timer 3 1 None 0", "timer 3 1 - 0"), ("timer 3 1 None 0 a", "timer 3 1 None 0 A"),
                    ("timer 3 1 None 0 a ()", "timer 3 1 None 0 a"), ("idle None 3", "idle None 4"), ("idle None 3", "idle None 2"),
                    ("idle None 3", "idle None 9"), ("idle None 3", "idle -1 3"), ("idle None 3 None 2", "idle None 3 None 1"), ("idle None 3 None 2", "idle None 3 5 2"),
                    ("idle None 3 None 2 c ()", "idle None 3 c ()"), ("idle None 3 None 2 c ()", "idle None 3 None 2 None ()"), ("()", "None"))

    def test_promises(self):
        loop = loop_of((MAKE, ("make", "q"), ("follow", "p", "q"), ("make", "r"), ("break", "r", "bad"), ("micro", ()), ("micro", ())), flood=1)
        loop.turn()
        follows, broken = "('follows', 1)", "('broken', 'bad')"
        self.refuse(loop, (follows, "('follows', 0)"), (follows, "('follows', 2)"), (follows, "('follows', 3)"),
                    (follows, "('open',)"), ("(None follow 0)", "(None follow 1)"), (" (None follow 0)", ""),
                    (" (None follow 0)", " (None follow 0) (None follow 0)"), ("untold 2", "untold 1"), ("untold 2", "untold 3"), ("untold 2", "untold 2 2"),
                    ("untold 2", "untold"), ("untold 2", "untold 2\nuntold 2"), ("name p 0", "name p 3"), ("name p 0", "name z 0"),
                    (broken, "('broken', 1)"), (broken, "('broken', None)"), ("('open',) 1", "('open',) 0"), (f"{broken} 0", f"{broken} 1"),
                    (f"{broken} 0 None None", f"{broken} 0 None odd"))

    def test_rings_of_followers(self):
        loop = loop_of((MAKE, ("make", "q"), ("follow", "p", "q")))
        loop.turn()
        self.refuse(loop, ("promise ('open',) 1", "promise ('follows', 0) 1"))
        text = str(loop)
        for old, new in (("promise ('follows', 1) 0 None None", "promise ('follows', 1) 1 None None (None follow 1)"), ("('open',) 1", "('follows', 0) 1")):
            self.assertIn(old, text)
            text = text.replace(old, new)
        with self.assertRaises(NoText):
            read_loop(text)

    def test_several(self):
        loop = loop_of((MAKE, ("make", "q"), ("keep", "q", 5), ("all", "r", ("p", "q"))))
        loop.turn()
        gather = "('all', (None, ('kept', 5)))"
        self.refuse(loop, (gather, "('all', (('kept', 5), ('kept', 5)))"), (gather, "('all', (None, None))"), (gather, "('any', (None, ('kept', 5)))"),
                    (gather, "None"), ("gather 2 0", "gather 2 1"), ("gather 2 0", "gather 1 0"), ("gather 2 0", "gather 0 0"), (" (1 gather 2 0)", ""),
                    ("gather 2 0", "gather 2 8"))

    def test_stories(self):
        loop = loop_of((MAKE, ("story", "q", (("wait", "p"), ("echo",)))))
        loop.turn()
        rest = "(1 work (1, None, (('echo',),), None, 1, (), None))"
        self.refuse(loop, ("None, 1, (), None", "None, 0, (), None"), ("whole", "hole"), ("None, 1, (), None", "None, None, (), None"),
                    ("None, 1, (), None", "None, 1"), ("None, 1, (), None", "None, 2, (), None"), (rest, rest.replace("(1 work", "(0 work")),
                    (rest, rest.replace("(1, None", "(1, 'z'")), (rest, rest + " " + rest), (rest, "(1 work None)"))

    def test_runs_and_heads(self):
        loop = loop_of((MAKE, ("run", "p")), deep=1)
        loop.turn()
        run = [row for row in str(loop).split("\n") if row.startswith("run")][0]
        ranks = "(None, None, None)"
        self.refuse(loop, (run, run + "\n" + run), (run, run[:-1] + "1"), ("promise ('open',) 1", "promise ('open',) 0"), (run, "run None 0"), (run, run[:-2]),
                    (run, "run (0, 'work', (), None, None) 0"), ("100 1 0 1", "100 1 0 1 0"), ("100 1 0 1", "100 1 0 1 0 0"), ("100 1 0 1", "100 1 0 0"),
                    ("100 1 0 1", "100 1 0"), ("100 1 0 1", "100 0 0 1"), (ranks, "(None, None)"), (ranks, "(None, None, None, None)"),
                    (ranks, "(-1, None, None)"), (ranks, "None"), (run, run + "\nuntold"), (run, run + "\nasking None 0 0"), (run, run + "\nasking"),
                    (run, run + "\nasking 1"))

    def test_works_that_were_broken_off(self):
        loop = loop_of((("micro", (("call", "odd"),)), ("micro", ())), calls=CALLS)
        self.assertEqual(turn_of(loop), "odd")
        asking = "asking (1, None, (), None, None, (), None) 1 0"
        self.refuse(loop, (asking, asking[:-1] + "2"), (asking, asking[:-3] + "-1 0"), (asking, asking[:-2]), (asking, asking[:-4]), (asking, asking + "\n" + asking),
                    (asking, asking.replace("(), None)", ")")), (asking, asking.replace("(1,", "(9,")), (asking, asking + " 0"))

    def micro_loop(self):
        """A loop with micros of every kind that a flood left."""
        loop = loop_of((
            MAKE, ("keep", "p", 1), ("micro", ()), ("micro", ECHO), ("then", "p", "q", None, None), ("then", "p", "r", ECHO, None), ("all", "s", ("p", "p")),
            ("story", "t", (("wait", "p"), ("echo",))), ("guard", (("wait", "p"), ("echo",)), None, ()),
        ), flood=1)
        loop.turn()
        loop.forget()
        return loop

    def test_micros(self):
        kinds = ["micro 2 work (2, None, (('echo',),), None, None) None", "micro 3 settle 1 ('kept', 1)", "micro 4 work (4, None, (('echo',),), 1, 2) None",
                 "micro 5 gather 3 0 ('kept', 1)", "micro 5 gather 3 1 ('kept', 1)", "micro 6 work (6, None, (('wait', 'p'), ('echo',)), None, 4) None",
                 "micro 0 work (0, 'work', (('echo',),), None, None, (('part', None, ()),), None) ('kept', 1)"]
        loop = self.micro_loop()
        self.assertEqual([row for row in str(loop).split("\n") if row.startswith("micro")], kinds)
        kept, part = "('kept', 1)", "('part', None, ())"
        self.refuse(
            loop, ("micro 2 work (2, None", "micro 3 work (2, None"), ("micro 2 work (2, None", "micro 9 work (9, None"), ("micro 2 work (2, None", "micro 2 work (2, 'a'"),
            ("micro 2 work", "micro 2 works"), (kinds[0], kinds[0].replace(") None", f") {kept}")), (kinds[0], kinds[0].replace("None) None", "None, (), None) None")),
            (kinds[0], kinds[0].removesuffix(" None")), (kinds[0], kinds[0] + " None"), (kinds[0], kinds[0].replace("None) None", "None, ()) None")),
            (kinds[0], kinds[0].replace("None) None", "None, (), 1) None")), (kinds[0], "micro 2 work None None"),
            ("settle 1", "settle 9"), ("settle 1", "settle 2"), ("settle 1", "settle 3"), (f"settle 1 {kept}", "settle 1 ('open',)"),
            (f"settle 1 {kept}", "settle 1 None"), (f"settle 1 {kept}", "settle 1 ('broken', 1)"), (kinds[3], kinds[4]), ("gather 3 0", "gather 3 2"),
            ("gather 3 0", "gather 1 0"), (f"gather 3 0 {kept}", "gather 3 0 ('kept', True)"), (f"gather 3 0 {kept}", "gather 3 0"), (kinds[3] + "\n", ""),
            (kinds[6], kinds[6].replace(kept, "None")), (kinds[6], kinds[6].replace(kept, "('follows', 1)")),
            *[(part, other) for other in ("('part', None, None)", "('part', (), None)", "('part', ())", "('second', None)", "('last', 1)", "('first', ())",
                                          "('part', None, (), ())", "()", "None", "('second', (), ())", "('do', ())", "('part', 1, ())")],
            (kinds[6], kinds[6].replace("(0, 'work'", "(0, 'Work'")), (kinds[6], kinds[6].replace("None, None, ((", "None, 1, ((")),
            (kinds[5] + "\n", ""), ("None, 4)", "None, 2)"), ("None, 4)", "None, 3)"), ("None, 4)", "None, 9)"),
        )

    def test_takers(self):
        loop = loop_of((MAKE, ("then", "p", "q", ECHO, None), ("then", "p", "r", None, ()), ("micro", (("wait", "p"), ("echo",)))))
        loop.turn()
        taker, open_one = "(1 then 1 (('echo',),) None)", "promise ('open',) 1 None None"
        self.refuse(
            loop, (taker, taker + " " + taker), ("then 1", "then 2"), ("then 1", "then 9"), ("(1 then", "(9 then"), ("(1 then", "(None then"), ("then 1", "than 1"),
            (taker, "(1 then 1 1 None)"), (taker, "(1 then 1 None 1)"), (taker, "(1 then 1 None)"), (taker, "(1 then 1 None None None)"), (taker, "(1)"), (taker, "1"),
            (taker, "()"), (taker, "(None follow 1)"), (taker, "(1 follow 1)"), ("(3 work (3", "(2 work (3"), ("None, None, (), None)", "None, None)"),
            (taker, "(1, 'then', 1, (('echo',),), None)"), (taker, taker.replace("(1 ", "( 1 ")),
            (open_one, "promise ('kept', 1) 1 None None"), (open_one, "promise ('kept', 1) 0 None None"),
            (open_one, "promise ('broken', 'a') 1 None None"), (open_one, "promise ('open',) 2 None None"),
        )

    def test_each_word_of_texts_otherwise(self):
        # Whatever is read goes on like any other loop.
        answers = {"read": 0, "refused": 0}
        broken = loop_of((("guard", (("call", "odd"),), ECHO, ()), ("story", "q", ())), calls=CALLS)
        turn_of(broken)
        for loop in (self.micro_loop(), broken, *[behind(chance_loop(seed)[0], 2) for seed in (3, 11)]):
            text = str(loop)
            for found in re.finditer(r"'?[A-Za-z]+'?|-?[0-9]+|\(\)", text):
                quote = "'" if found.group().startswith("'") else ""
                for word in ("0", "3", "None", f"{quote}p{quote}", f"{quote}kept{quote}", "()"):
                    ReadLoop.judge(self, text[:found.start()] + word + text[found.end():], answers)
        self.assertGreater(min(answers.values()), 200, answers)

    def refused(self, text):
        with self.assertRaises(NoText):
            read_loop(text)

    def test_journals(self):
        loop = loop_of((MAKE, ("keep", "p", 1), ("spend", 3), ("say", "a")))
        loop.turn()
        self.refuse(loop, ("event 0 task", "event 4 task"), ("event 3 said a", "event 2 said True"), ("event 3 said a", "event 4 said a"),
                    ("event 0 task 0 0 least", "event 0 task 0 3 least"), ("event 0 task 0 0 least", "event 0 task 1 0 least"),
                    ("event 0 task 0 0 least", "event 0 task 0 0 best"), ("event 0 kept 0 1", "event 0 kept 1 1"), ("event 0 kept 0 1", "event 0 keeps 0 1"),
                    ("event 0 kept 0 1", "event 0 kept 0"), ("event 0 kept 0 1", "event 0 broken 0 1"), ("event 0 kept 0 1", "event"))


def behind(loop, many):
    """A loop behind so many turns."""
    for _ in range(many):
        turn_of(loop)
    return loop


def forgotten(loop):
    twin = loop.copy()
    twin.forget()
    return twin


def told_of(loop):
    """All that a loop tells."""
    promises = [loop.promise(name) for name in sorted(loop.state.book.named)]
    return [loop.now(), loop.depth(), loop.journal(), loop.lines(), loop.passes(), loop.is_busy(), len(loop), promises]


class CutAnywhere(unittest.TestCase):
    def go(self, seed, cut, turns=20, kind=Maker):
        """What a loop tells behind each turn, with works posted between; cut tells how it goes on between turns."""
        loop, maker, ranks = chance_loop(seed, kind)
        posts = kind(-1 - seed)
        told = []
        for turn in range(turns):
            script = posts.script(2)
            if turn % 3 == 2 and is_script(script):
                told.append(loop.post(script, rank=posts.chance.randrange(ranks), name="a"))
            if turn % 5 == 4:
                loop.forget()
            told.append((turn_of(loop), told_of(loop), str(loop)))
            loop = cut(loop)
        return told

    def test_copied_written_and_read(self):
        def both(loop):
            return read_loop(str(loop.copy()), calls=CALLS).copy()

        for seed in range(150):
            whole = self.go(seed, lambda loop: loop)
            self.assertEqual(self.go(seed, lambda loop: read_loop(str(loop), calls=CALLS)), whole, seed)
            self.assertEqual(self.go(seed, both), whole, seed)

    def test_stories(self):
        for seed in range(80):
            whole = self.go(seed, lambda loop: loop, kind=StoryMaker)
            self.assertEqual(self.go(seed, lambda loop: read_loop(str(loop), calls=CALLS), kind=StoryMaker), whole, seed)

    def test_cut_by_chance(self):
        for seed in range(250, 400):
            chance = random.Random(seed)
            whole = self.go(seed, lambda loop: loop, 30)
            cut = self.go(seed, lambda loop: read_loop(str(loop), calls=CALLS) if chance.randrange(4) == 0 else loop.copy(), 30)
            self.assertEqual(cut, whole, seed)


if __name__ == "__main__":
    unittest.main()
