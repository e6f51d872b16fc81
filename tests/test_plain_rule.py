"""Loops by chance, turn by turn against the plain rule done another way [3]."""

import copy
import random
import unittest

from plainrule import Plain
from rankloop.errors import NoPromise
from rankloop.lines import chosen
from rankloop.looprows import text_of
from rankloop.loops import Loop
from rankloop.scripts import is_script
from rankloop.states import passes_of

NAMES = ("p", "q", "r")
WORKS = ("a", "b", "work")
WORTHS = (None, 0, 7, "w", (), (1, "x"), (((1,),),), ((((),),),))
PLAIN = ("say", "echo", "spend", "stop", "rerank", "make", "keep", "pass", "break", "follow", "all", "any", "first",
         "each", "give", "fail", "wait", "run", "cancel", "yield", "call")
NESTED = ("post", "micro", "after", "every", "idle", "then", "guard", "if", "story")
# Many promises, or none is ever there to be taken.
OFTEN = ("make", "make", "wait", "run", "keep", "guard", "guard", "story", "story", "cancel", "post", "post", "then")


class Odd(Exception):
    """What a def raises."""


def raise_odd(told):
    raise Odd()


CALLS = {
    "tell": lambda told: (("say", "called"), ("give", 4), ("say", "never")),
    "waits": lambda told: (("make", "p"), ("micro", (("keep", "p", 5),)), ("wait", "p"), ("echo",)),
    "none": lambda told: None,
    "odd": raise_odd,
}


class Maker:
    """Makes scripts by chance."""

    def __init__(self, seed):
        self.chance = random.Random(seed)

    def script(self, levels):
        many = self.chance.randrange(1, 7 if levels == 4 else 4)
        return tuple([self.deed(levels) for _ in range(many)])

    def perhaps(self, levels):
        return None if self.chance.randrange(2) else self.script(levels)

    def deed(self, levels):
        choices = PLAIN + OFTEN + NESTED if levels else PLAIN
        word = self.chance.choice(choices)
        if word in NESTED and levels == 0:
            word = "echo"
        return (word, *self.parts(word, levels - 1))

    def rank(self):
        return self.chance.choice((0, 0, 0, 0, 1, 1, 2, 3, 5))

    def parts(self, word, levels):
        chance = self.chance
        name, other = chance.choice(NAMES), chance.choice(NAMES)
        work = chance.choice(WORKS)
        simple = {
            "say": ("x",), "echo": (), "spend": (chance.randrange(4),), "stop": (work,), "rerank": (work, self.rank()),
            "make": (name,), "keep": (name, chance.choice(WORTHS)), "pass": (name,), "break": (name, "bad"),
            "follow": (name, other), "give": (chance.choice(WORTHS),), "fail": ("wrong",), "wait": (name,),
            "run": (name,), "cancel": (name,), "yield": (self.rank(),),
            "call": (chance.choice(("tell", "waits", "none", "odd", "missing")),),
        }
        if word in simple:
            return simple[word]
        if word in ("all", "any", "first", "each"):
            return (name, tuple([chance.choice(NAMES) for _ in range(chance.randrange(4))]))
        return self.nested_parts(word, levels, name, other, work)

    def nested_parts(self, word, levels, name, other, work):
        script = self.script(levels)
        some = self.chance.randrange(5)
        if word == "post":
            return (self.rank(), work, script)
        if word == "micro":
            return (script,)
        if word in ("after", "every"):
            return (some + 1, self.rank(), work, script)
        if word == "idle":
            return (None if some == 0 else some, work, script)
        if word == "then":
            return (name, other, self.perhaps(levels), self.perhaps(levels))
        if word == "guard":
            return (script, self.perhaps(levels), self.script(levels))
        if word == "if":
            return (name, script, self.script(levels))
        return (name, script)


class StoryMaker(Maker):
    """Makes scripts that have many stories, which wait, are cancelled and guarded."""

    def script(self, levels):
        deeds = [self.deed(min(levels, 2)) for _ in range(self.chance.randrange(1, 6))]
        if levels < 4:
            return tuple(deeds)
        stories = [("story", story, (self.wait(), *self.script(1), self.wait())) for story in "stst"]
        return (("make", "p"), ("make", "q"), *stories, ("yield", 0), *deeds)

    def wait(self):
        """A wait, guarded or not."""
        deed = ("wait", self.chance.choice("pq"))
        return self.chance.choice([deed, ("guard", (deed,), ECHO, ECHO), ("guard", (deed, deed), None, (deed,))])

    def deed(self, levels):
        chance = self.chance
        name, story = chance.choice("pq"), chance.choice("st")
        script = self.script(levels - 1) if levels else ()
        return chance.choice([
            ("cancel", story), ("cancel", story), ("cancel", story), self.wait(), ("wait", story), ("yield", 0), ("echo",), ("keep", name, 5),
            ("break", name, "bad"), ("story", story, script), ("guard", script, ECHO, ECHO), ("post", 0, "a", script), ("micro", script),
            ("run", chance.choice((name, story))), ("follow", name, chance.choice("pqst")), ("then", story, "r", None, ECHO),
            ("any", "r", (story, "p")), ("make", name),
        ])


ECHO = (("echo",),)


def told_of(loop, plain):
    """What a loop and the plain rule tell between turns."""
    mine = [loop.journal(), loop.lines(), loop.passes(), loop.now(), loop.depth(), len(loop)]
    theirs = [plain.events, plain.lines(), plain.passes(), plain.clock, plain.runs, sum(map(len, plain.works))]
    for name in NAMES:
        try:
            mine.append(loop.promise(name))
        except NoPromise:
            mine.append(None)
        theirs.append(plain.promise(name) if name in plain.names else None)
    return mine, theirs


def turn_of(loop):
    """What a turn tells, or that it raised."""
    try:
        return loop.turn()
    except Odd:
        return "odd"


def unnoted(thing):
    """A state, or a part of one, with no texts noted in it."""
    if isinstance(thing, dict):
        unnoted(list(thing.values()))
    elif isinstance(thing, (list, tuple)):
        for part in thing:
            unnoted(part)
    elif hasattr(thing, "__dict__") and not callable(thing):
        if hasattr(thing, "text"):
            thing.text = None
        if hasattr(thing, "shown"):
            thing.shown = (0, "")
        unnoted(list(vars(thing).values()))
    return thing


def parts_of(thing):
    """A state, or a part of one, as tuples that are equal just where it stands for the same."""
    if isinstance(thing, dict):
        return {key: parts_of(part) for key, part in thing.items()}
    if isinstance(thing, (list, tuple)):
        return tuple([parts_of(part) for part in thing])
    if not hasattr(thing, "__dict__"):
        return thing
    noted = ("text", "shown", "shared", "calls", "patient", "ahead", "waits", "soonest", "picks", "since", "busy", "untold")
    parts = {name: parts_of(part) for name, part in vars(thing).items() if name not in noted and (name != "work" or not hasattr(thing, "gap"))}
    if hasattr(thing, "since"):
        parts["passes"] = passes_of(thing)
    if hasattr(thing, "untold"):
        parts["untold"] = list(thing.untold)
    return parts


class PlainRule(unittest.TestCase):
    def pair(self, seed, kind=Maker):
        """A loop and the plain rule, with the same works."""
        maker = kind(seed)
        chance = maker.chance
        ranks = chance.randrange(1, 7)
        patience = chance.choice([None, [chance.choice((None, 0, 1, 2)) for _ in range(ranks)]])
        flood = chance.choice((1, 2, 3, 100))
        deep = chance.choice((1, 2, 8))
        loop = Loop(ranks=ranks, patience=patience, flood=flood, deep=deep, calls=CALLS)
        plain = Plain(ranks, patience, flood, deep, CALLS)
        # Where no promise stands, most deeds come to nothing.
        scripts = [maker.script(4) for _ in range(chance.randrange(1, 5))]
        if chance.randrange(4):
            scripts[0] = (*[("make", name) for name in NAMES], *scripts[0])
        for script in scripts:
            if is_script(script):
                rank, name = chance.randrange(ranks), chance.choice(WORKS)
                self.assertEqual(loop.post(script, rank=rank, name=name), plain.post(script, rank, name))
        return loop, plain

    def go_on(self, seed, loop, plain, kind=Maker):
        maker = kind(-seed)
        for turn in range(25):
            script = maker.script(2)
            if turn % 4 == 3 and is_script(script):
                rank = maker.chance.randrange(plain.ranks)
                self.assertEqual(loop.post(script, rank=rank, name="a"), plain.post(script, rank, "a"))
            told = turn_of(loop)
            self.assertEqual(told, turn_of(plain), (seed, turn))
            mine, theirs = told_of(loop, plain)
            self.assertEqual(mine, theirs, (seed, turn))
            if not told:
                return

    def test_turn_by_turn(self):
        for seed in range(3000):
            loop, plain = self.pair(seed)
            self.go_on(seed, loop, plain)

    def test_stories(self):
        for seed in range(700):
            loop, plain = self.pair(seed, StoryMaker)
            self.go_on(seed, loop, plain, StoryMaker)

    def test_copies_go_on_alike(self):
        for seed in range(400):
            loop, plain = self.pair(seed)
            for _ in range(6):
                twin = loop.copy()
                self.assertEqual(twin, loop)
                self.assertEqual(str(twin), str(loop))
                before = str(loop)
                # The copy goes on, and the loop stays as it was.
                for _ in range(4):
                    turn_of(twin)
                self.assertEqual(str(loop), before)
                again = loop.copy()
                for _ in range(4):
                    turn_of(again)
                self.assertEqual(again, twin)
                self.assertEqual(str(again), str(twin))
                turn_of(loop)
                turn_of(plain)
                self.assertEqual(*told_of(loop, plain))

    def test_texts_are_as_if_made_anew(self):
        # Texts of parts are noted when they are asked: here none is.
        for seed in range(300):
            loop, _ = self.pair(seed)
            for _ in range(8):
                text = str(loop)
                self.assertEqual(text, text_of(unnoted(copy.deepcopy(loop.state))))
                twin = loop.copy()
                turn_of(twin)
                self.assertEqual(str(twin), text_of(unnoted(copy.deepcopy(twin.state))))
                self.assertEqual(str(loop), text)
                turn_of(loop)

    def test_equal_just_where_the_texts_are(self):
        loops = []
        for seed in range(60):
            loop, _ = self.pair(seed)
            for _ in range(4):
                loops.append(loop.copy())
                loops[-1].forget()
                turn_of(loop)
        texts = [str(loop) for loop in loops]
        parts = [parts_of(loop.state) for loop in loops]
        alike = 0
        for one, text, part in zip(loops, texts, parts):
            for other, another, others in zip(loops, texts, parts):
                self.assertEqual((one == other, text == another), (part == others,) * 2)
                alike += text == another
        self.assertGreater(alike, len(loops))

    def test_branches(self):
        # Copies share what none of them has changed: each goes on as a loop that shares nothing.
        for seed in range(120):
            maker = Maker(seed)
            chance = maker.chance
            branches = [(self.pair(seed)[0], [])]
            for _ in range(14):
                loop, steps = chance.choice(branches)
                if chance.random() < 0.4:
                    loop, steps = loop.copy(), list(steps)
                    branches.append((loop, steps))
                script = maker.script(2)
                steps.append(script if is_script(script) and chance.random() < 0.5 else None)
                go_by(loop, steps[-1])
                if chance.random() < 0.3:
                    str(loop)
            for loop, steps in branches:
                alone, _ = self.pair(seed)
                for step in steps:
                    go_by(alone, step)
                self.assertEqual(parts_of(loop.state), parts_of(alone.state), seed)
                self.assertEqual(str(loop), str(alone), seed)
                self.assertEqual(loop, alone, seed)

    def test_ranks_are_chosen_as_told(self):
        told = {"overdue": 0, "least": 0}
        for seed in range(300):
            chance = Maker(seed).chance
            patience = [chance.choice((None, 0, 1, 2, 4)) for _ in range(chance.randrange(1, 5))]
            loop = Loop(ranks=len(patience), patience=patience)
            for _ in range(20):
                for rank in range(len(patience)):
                    if chance.random() < 0.4:
                        loop.post(chance.choice(((), (("stop", "a"),), (("rerank", "b", 0),))), rank=rank, name=chance.choice("abc"))
                rank = chosen(loop.passes(), patience)
                loop.forget()
                self.assertIs(loop.turn(), rank is not None)
                if rank is not None:
                    self.assertEqual(loop.journal()[0][3], rank)
                    told[loop.journal()[0][4]] += 1
        self.assertGreater(min(told.values()), 500, told)


def go_by(loop, step):
    """Do a turn, with a script posted ahead of it where there is one."""
    if step is not None:
        loop.post(step, name="b")
    turn_of(loop)


if __name__ == "__main__":
    unittest.main()
