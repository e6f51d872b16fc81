"""Loops by chance, turn by turn against the plain rule done another way [3]."""

import random
import unittest

from plainrule import Plain
from rankloop.errors import NoPromise
from rankloop.looprows import rows_of
from rankloop.loops import Loop
from rankloop.scripts import is_script
from rankloop.scripttexts import nested

NAMES = ("p", "q", "r")
WORKS = ("a", "b", "work")
WORTHS = (None, 0, 7, "w", (), (1, "x"), (((1,),),), ((((),),),))
PLAIN = ("say", "echo", "spend", "stop", "rerank", "make", "keep", "pass", "break", "follow", "all", "any", "first",
         "each", "give", "fail", "wait", "run", "cancel", "yield", "call")
NESTED = ("post", "micro", "after", "every", "idle", "then", "guard", "if", "story")
# Many promises, or none is ever there to be taken.
OFTEN = ("make", "make", "wait", "run", "keep", "guard", "guard", "story", "story", "cancel", "post", "post", "then")


class Odd(Exception):
    """What a def raises."""


def raise_odd(told):
    raise Odd()


CALLS = {
    "tell": lambda told: (("say", "called"), ("give", 4), ("say", "never")),
    "waits": lambda told: (("make", "p"), ("micro", (("keep", "p", 5),)), ("wait", "p"), ("echo",)),
    "none": lambda told: None,
    "odd": raise_odd,
}


class Maker:
    """Makes scripts by chance."""

    def __init__(self, seed):
        self.chance = random.Random(seed)

    def script(self, levels):
        many = self.chance.randrange(1, 7 if levels == 4 else 4)
        return tuple([self.deed(levels) for _ in range(many)])

    def perhaps(self, levels):
        return None if self.chance.randrange(2) else self.script(levels)

    def deed(self, levels):
        choices = PLAIN + OFTEN + NESTED if levels else PLAIN
        word = self.chance.choice(choices)
        if word in NESTED and levels == 0:
            word = "echo"
        return (word, *self.parts(word, levels - 1))

    def rank(self):
        return self.chance.choice((0, 0, 0, 0, 1, 1, 2, 3, 5))

    def parts(self, word, levels):
        chance = self.chance
        name, other = chance.choice(NAMES), chance.choice(NAMES)
        work = chance.choice(WORKS)
        simple = {
            "say": ("x",), "echo": (), "spend": (chance.randrange(4),), "stop": (work,), "rerank": (work, self.rank()),
            "make": (name,), "keep": (name, chance.choice(WORTHS)), "pass": (name,), "break": (name, "bad"),
            "follow": (name, other), "give": (chance.choice(WORTHS),), "fail": ("wrong",), "wait": (name,),
            "run": (name,), "cancel": (name,), "yield": (self.rank(),),
            "call": (chance.choice(("tell", "waits", "none", "odd", "missing")),),
        }
        if word in simple:
            return simple[word]
        if word in ("all", "any", "first", "each"):
            return (name, tuple([chance.choice(NAMES) for _ in range(chance.randrange(4))]))
        return self.nested_parts(word, levels, name, other, work)

    def nested_parts(self, word, levels, name, other, work):
        script = self.script(levels)
        some = self.chance.randrange(5)
        if word == "post":
            return (self.rank(), work, script)
        if word == "micro":
            return (script,)
        if word in ("after", "every"):
            return (some + 1, self.rank(), work, script)
        if word == "idle":
            return (None if some == 0 else some, work, script)
        if word == "then":
            return (name, other, self.perhaps(levels), self.perhaps(levels))
        if word == "guard":
            return (script, self.perhaps(levels), self.script(levels))
        if word == "if":
            return (name, script, self.script(levels))
        return (name, script)


class StoryMaker(Maker):
    """Makes scripts that have many stories, which wait, are cancelled and guarded."""

    def script(self, levels):
        deeds = [self.deed(min(levels, 2)) for _ in range(self.chance.randrange(1, 6))]
        if levels < 4:
            return tuple(deeds)
        stories = [("story", story, (self.wait(), *self.script(1), self.wait())) for story in "stst"]
        return (("make", "p"), ("make", "q"), *stories, ("yield", 0), *deeds)

    def wait(self):
        """A wait, guarded or not."""
        deed = ("wait", self.chance.choice("pq"))
        return self.chance.choice([deed, ("guard", (deed,), ECHO, ECHO), ("guard", (deed, deed), None, (deed,))])

    def deed(self, levels):
        chance = self.chance
        name, story = chance.choice("pq"), chance.choice("st")
        script = self.script(levels - 1) if levels else ()
        return chance.choice([
            ("cancel", story), ("cancel", story), ("cancel", story), self.wait(), ("wait", story), ("yield", 0), ("echo",), ("keep", name, 5),
            ("break", name, "bad"), ("story", story, script), ("guard", script, ECHO, ECHO), ("post", 0, "a", script), ("micro", script),
            ("run", chance.choice((name, story))), ("follow", name, chance.choice("pqst")), ("then", story, "r", None, ECHO),
            ("any", "r", (story, "p")), ("make", name),
        ])


ECHO = (("echo",),)


def told_of(loop, plain):
    """What a loop and the plain rule tell between turns."""
    mine = [loop.journal(), loop.lines(), loop.passes(), loop.now(), loop.depth(), len(loop)]
    theirs = [plain.events, plain.lines(), plain.passes(), plain.clock, plain.runs, sum(map(len, plain.works))]
    for name in NAMES:
        try:
            mine.append(loop.promise(name))
        except NoPromise:
            mine.append(None)
        theirs.append(plain.promise(name) if name in plain.names else None)
    return mine, theirs


def turn_of(loop):
    """What a turn tells, or that it raised."""
    try:
        return loop.turn()
    except Odd:
        return "odd"


class PlainRule(unittest.TestCase):
    def pair(self, seed, kind=Maker):
        """A loop and the plain rule, with the same works."""
        maker = kind(seed)
        chance = maker.chance
        ranks = chance.randrange(1, 7)
        patience = chance.choice([None, [chance.choice((None, 0, 1, 2)) for _ in range(ranks)]])
        flood = chance.choice((1, 2, 3, 100))
        deep = chance.choice((1, 2, 8))
        loop = Loop(ranks=ranks, patience=patience, flood=flood, deep=deep, calls=CALLS)
        plain = Plain(ranks, patience, flood, deep, CALLS)
        # Where no promise stands, most deeds come to nothing.
        scripts = [maker.script(4) for _ in range(chance.randrange(1, 5))]
        if chance.randrange(4):
            scripts[0] = (*[("make", name) for name in NAMES], *scripts[0])
        for script in scripts:
            if is_script(script):
                rank, name = chance.randrange(ranks), chance.choice(WORKS)
                self.assertEqual(loop.post(script, rank=rank, name=name), plain.post(script, rank, name))
        return loop, plain

    def go_on(self, seed, loop, plain, kind=Maker):
        maker = kind(-seed)
        for turn in range(25):
            script = maker.script(2)
            if turn % 4 == 3 and is_script(script):
                rank = maker.chance.randrange(plain.ranks)
                self.assertEqual(loop.post(script, rank=rank, name="a"), plain.post(script, rank, "a"))
            told = turn_of(loop)
            self.assertEqual(told, turn_of(plain), (seed, turn))
            mine, theirs = told_of(loop, plain)
            self.assertEqual(mine, theirs, (seed, turn))
            if not told:
                return

    def test_turn_by_turn(self):
        for seed in range(3000):
            loop, plain = self.pair(seed)
            self.go_on(seed, loop, plain)

    def test_stories(self):
        for seed in range(700):
            loop, plain = self.pair(seed, StoryMaker)
            self.go_on(seed, loop, plain, StoryMaker)

    def test_copies_go_on_alike(self):
        for seed in range(400):
            loop, plain = self.pair(seed)
            for _ in range(6):
                twin = loop.copy()
                self.assertEqual(twin, loop)
                self.assertEqual(str(twin), str(loop))
                before = str(loop)
                # The copy goes on, and the loop stays as it was.
                for _ in range(4):
                    turn_of(twin)
                self.assertEqual(str(loop), before)
                again = loop.copy()
                for _ in range(4):
                    turn_of(again)
                self.assertEqual(again, twin)
                self.assertEqual(str(again), str(twin))
                turn_of(loop)
                turn_of(plain)
                self.assertEqual(*told_of(loop, plain))

    def test_texts_have_all_in_them(self):
        for seed in range(300):
            loop, _ = self.pair(seed)
            for _ in range(8):
                read = [nested(row.split(" ")) for row in str(loop).split("\n")]
                self.assertEqual(read, rows_of(loop.state))
                turn_of(loop)

    def test_equal_just_where_the_texts_are(self):
        loops = []
        for seed in range(60):
            loop, _ = self.pair(seed)
            for _ in range(4):
                loops.append(loop.copy())
                loops[-1].forget()
                turn_of(loop)
        texts = [str(loop) for loop in loops]
        for one, text in zip(loops, texts):
            for other, another in zip(loops, texts):
                self.assertEqual(one == other, text == another)


if __name__ == "__main__":
    unittest.main()
