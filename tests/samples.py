"""Scripts and other things that several tests use."""

import random

S = (("say", "inner"),)
T = (("echo",), ("spend", 3))
L = (("say", "last"),)

# Each deed as the document tells it, by what its parts are: see PARTS.
FORMS = [
    ("say", "W"),
    ("echo",),
    ("spend", "K"),
    ("post", "R", "W", "S"),
    ("micro", "S"),
    ("after", "K", "R", "W", "S"),
    ("every", "K1", "R", "W", "S"),
    ("idle", "K?", "W", "S"),
    ("stop", "W"),
    ("rerank", "W", "R"),
    ("make", "W"),
    ("keep", "W", "V"),
    ("pass", "W"),
    ("break", "W", "W"),
    ("follow", "W", "W"),
    ("then", "W", "W", "S?", "S?"),
    ("all", "W", "names"),
    ("any", "W", "names"),
    ("first", "W", "names"),
    ("each", "W", "names"),
    ("give", "V"),
    ("fail", "W"),
    ("guard", "S", "S?", "S"),
    ("if", "W", "S", "S"),
    ("wait", "W"),
    ("run", "W"),
    ("story", "W", "S"),
    ("cancel", "W"),
    ("yield", "R"),
    ("call", "W"),
]

NO_WORDS = [None, True, 0, "", "abcdefghi", "Ab", "a b", "a1", "a-", " a", "a\n", ("a",), ["a"], {"a": 1}]
NO_NUMBERS = [True, False, "1", "", "a", (), (1,), [], [1], {}]
NO_SCRIPTS = [
    True, 0, 1, "", "a", "say", (None,), ("say", "a"), (("say",),), (("say", "a", "b"),), (["say", "a"],),
    [], [("say", "a")], {}, (("Say", "a"),), ((),), (("say", "a"), None), ((1, "a"),), ((("say",), "a"),),
]

# Of each kind of part: what it may be, and what it may not be.
PARTS = {
    "W": (["a", "z", "say", "abcdefgh"], NO_WORDS),
    "R": ([0, 1, 5], [None, -1, 6, 10 ** 5000, *NO_NUMBERS]),
    "K": ([0, 1, 1000], [None, -1, 1001, *NO_NUMBERS]),
    "K1": ([1, 2, 1000], [None, -1, 0, 1001, *NO_NUMBERS]),
    "K?": ([None, 0, 1, 1000], [-1, 1001, *NO_NUMBERS]),
    "V": (
        [None, "a", "abcdefgh", 0, -10 ** 9, 10 ** 9, (), (None, "a", 1, ("b", ())), ((((),),),), (1,) * 20],
        [True, False, "", "A", "abcdefghi", 10 ** 9 + 1, -10 ** 9 - 1, [], {}, [1], (True,), ([],), (1,) * 21,
         (((((),),),),)],
    ),
    "names": (
        [(), ("a",), ("a", "a"), tuple("abcdefgh")],
        [None, True, 1, "a", ["a"], [], {}, ("A",), ("",), (None,), (1,), (("a",),), tuple("abcdefghi")],
    ),
    "S": ([(), S, T, (("micro", ()),)], [None, *NO_SCRIPTS]),
    "S?": ([None, (), S, T], NO_SCRIPTS),
}


def plain_deed(form):
    """A deed of this form, each part the first one that it may be."""
    return (form[0], *[PARTS[kind][0][0] for kind in form[1:]])


def all_good_deeds():
    """Deeds of each form, with each part at each thing that it may be."""
    deeds = []
    for form in FORMS:
        deeds.append(plain_deed(form))
        for at, kind in enumerate(form[1:], 1):
            for part in PARTS[kind][0]:
                deed = list(plain_deed(form))
                deed[at] = part
                deeds.append(tuple(deed))
    return deeds


def script_within(levels, innermost=()):
    """A script of so many levels, the innermost one without deeds or as told."""
    script = innermost
    for _ in range(levels - 1):
        script = (("micro", script),)
    return script


def nested_deeds(many):
    """A script of so many deeds in all, most of them within others."""
    inner = tuple([("echo",)] * ((many - 2) // 2))
    rest = tuple([("echo",)] * (many - 2 - len(inner)))
    return (("guard", inner, None, (("if", "p", (), rest),)),)


def things_within(many):
    """Things of every kind, so many within one another."""
    told = []
    for start in (None, True, 0, "a", (), [], {}):
        tuples, lists, dicts, mixed = start, start, start, start
        for step in range(many - 1):
            tuples = (tuples,)
            lists = [lists]
            dicts = {"a": dicts}
            mixed = [(mixed,), [mixed, 1], {1: mixed}][step % 3]
        told.extend([tuples, lists, dicts, mixed])
    return told


def anything():
    """None, truths, numbers, texts, tuples, lists and dicts of these."""
    flat = [
        None, True, False, 0, 1, -1, 7, 10 ** 9, 10 ** 9 + 1, -10 ** 9, -10 ** 9 - 1, 10 ** 5000,
        "", "a", "word", "abcdefgh", "abcdefghi", "A", "-", "0", "( echo )", " ", "\n", "9" * 5000,
        (), ("a",), (None, 1, "b"), [], ["a"], [[]], {}, {"a": 1}, {1: "a"}, {(): None}, {None: [()]},
        ("echo",), (("echo",),), [("echo",)], (["echo"],), ((["echo"],),), (({"echo": 1},),),
    ]
    return flat + things_within(30)


def random_worth(chance, levels=4):
    """A worth by chance."""
    kind = chance.randrange(4 if levels else 3)
    if kind == 0:
        return None
    if kind == 1:
        return random_word(chance)
    if kind == 2:
        return chance.choice([0, 1, -1, 9, 10, -10, 10 ** 9, -10 ** 9, chance.randint(-10 ** 9, 10 ** 9)])
    return tuple([random_worth(chance, levels - 1) for _ in range(chance.randrange(4))])


def random_word(chance):
    """A word by chance, often a deed's own."""
    if chance.randrange(3) == 0:
        return chance.choice(FORMS)[0]
    return "".join([chance.choice("abcxyz") for _ in range(chance.randint(1, 8))])


def random_part(chance, kind, levels):
    """A part of this kind by chance."""
    if kind == "W":
        return random_word(chance)
    if kind == "V":
        return random_worth(chance)
    if kind == "names":
        return tuple([random_word(chance) for _ in range(chance.randrange(9))])
    if kind == "S?" and chance.randrange(3) == 0:
        return None
    if kind in ("S", "S?"):
        return random_script(chance, levels - 1)
    return chance.choice(PARTS[kind][0])


def random_script(chance, levels=5):
    """A script by chance, of at most so many levels."""
    forms = [form for form in FORMS if levels > 1 or not {"S", "S?"} & set(form[1:])]
    deeds = []
    for _ in range(chance.randrange(4 if levels == 5 else 3)):
        form = chance.choice(forms)
        deeds.append((form[0], *[random_part(chance, kind, levels) for kind in form[1:]]))
    return tuple(deeds)


def random_scripts(many, seed=1):
    """Scripts by chance, the same ones each time."""
    chance = random.Random(seed)
    return [random_script(chance) for _ in range(many)]
