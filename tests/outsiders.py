"""Works from outside, all weavings of them one by one, and loops that several tests weave."""

import itertools

from loopcases import ECHO, MAKE, loop_of, say
from rankloop.loops import Loop


def all_weavings(many, most):
    """All weavings of so many works at up to most turns, one by one."""
    for numbers in itertools.permutations(range(many)):
        for times in itertools.combinations_with_replacement(range(most + 1), many):
            yield list(zip(times, numbers))


def gone(loop, outside, weaving, most=60):
    """By the plain words: the journal that a weaving adds, and how many turns are done."""
    twin = loop.copy()
    before = len(twin.journal())
    done = 0
    rest = list(weaving)

    def post():
        rank, name, script = outside[rest.pop(0)[1]]
        twin.post(script, rank=rank, name=name)

    while True:
        while rest and rest[0][0] == done:
            post()
        if done == most:
            break
        if twin.turn():
            done += 1
        elif rest:
            post()
        else:
            break
    return twin.journal()[before:], done


def plain_weavings(loop, outside, most_turns):
    """All unlike journals of all weavings, each with the least weaving that has no turns that aren't done."""
    found = {}
    for weaving in all_weavings(len(outside), most_turns):
        journal, done = gone(loop, outside, weaving)
        if all([turns <= done for turns, number in weaving]):
            key = repr(journal)
            if key not in found or weaving < found[key][1]:
                found[key] = (journal, weaving)
    return list(found.values())


def tick(told):
    return (("say", "tick"),)


def go_on(told):
    return (("post", 0, "n", (("call", "goes"),)),)


CALLS = {"tick": tick, "goes": go_on}


def small_loops():
    """Loops of a few turns, by names."""
    amid = loop_of((MAKE, ("post", 0, "a", ()), ("run", "p"), ("say", "ran")), say("b"), deep=2)
    amid.turns(1)
    low = Loop(patience=(None, 1, 0))
    low.post(say("low"), rank=2)
    low.post(say("mid"), rank=1)
    return {
        "nothing": Loop(),
        "one": loop_of(say("a")),
        "three": loop_of(say("a"), say("b"), (("post", 1, "c", say("c")),)),
        "patient": low,
        "timers": loop_of((("after", 2, 1, "t", say("t")), ("idle", 1, "i", ECHO), ("spend", 1))),
        "amid a run": amid,
        "promises": loop_of((MAKE, ("story", "q", (("wait", "p"), ("echo",), ("say", "b"))), ("say", "a"))),
        "floods": loop_of((("micro", say("a")), ("micro", say("b")), ("micro", say("c"))), say("d"), flood=1),
        "defs": loop_of((("call", "tick"), ("say", "a")), (("call", "tick"), ("call", "none")), calls=CALLS),
    }


OUTSIDE = {
    "none": [],
    "one": [(0, "x", say("x"))],
    "low": [(2, "x", say("x"))],
    "two": [(0, "x", say("x")), (1, "y", (("say", "y"), ("post", 0, "z", say("z"))))],
    "alike": [(0, "x", say("x")), (0, "x", say("x"))],
    "keepers": [(0, "x", (("keep", "p", 7), ("say", "x"))), (0, "y", (("break", "p", "bad"),))],
    "stoppers": [(1, "x", (("stop", "work"), ("echo",))), (0, "y", (("spend", 3), ("rerank", "x", 0)))],
    "three": [(0, "x", say("x")), (1, "y", say("y")), (2, "z", ())],
}
