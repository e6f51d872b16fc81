"""Words, worths and scripts: what they are, and what a script has in it."""

MOST_LETTERS = 8
FARTHEST = 1000000000
MOST_WORTHS = 20
WORTH_LEVELS = 4
LAST_RANK = 5
MOST_COUNT = 1000
MOST_NAMES = 8
MOST_DEEDS = 200
SCRIPT_LEVELS = 5

# The kinds of parts that each deed has behind its own word.
DEEDS = {
    "say": ("word",),
    "echo": (),
    "spend": ("count",),
    "post": ("rank", "word", "script"),
    "micro": ("script",),
    "after": ("count", "rank", "word", "script"),
    "every": ("gap", "rank", "word", "script"),
    "idle": ("due", "word", "script"),
    "stop": ("word",),
    "rerank": ("word", "rank"),
    "make": ("word",),
    "keep": ("word", "worth"),
    "pass": ("word",),
    "break": ("word", "word"),
    "follow": ("word", "word"),
    "then": ("word", "word", "perhaps", "perhaps"),
    "all": ("word", "names"),
    "any": ("word", "names"),
    "first": ("word", "names"),
    "each": ("word", "names"),
    "give": ("worth",),
    "fail": ("word",),
    "guard": ("script", "perhaps", "script"),
    "if": ("word", "script", "script"),
    "wait": ("word",),
    "run": ("word",),
    "story": ("word", "script"),
    "cancel": ("word",),
    "yield": ("rank",),
    "call": ("word",),
}
SCRIPT_KINDS = ("script", "perhaps")


def is_word(thing):
    """Whether it is a text of one to eight small letters."""
    if not isinstance(thing, str) or len(thing) > MOST_LETTERS:
        return False
    return thing.isalpha() and thing.islower() and thing.isascii()


def is_whole(thing):
    """Whether it is a whole number."""
    # Python counts True and False among its ints.
    return isinstance(thing, int) and not isinstance(thing, bool)


def is_from_0(thing):
    """Whether it is a whole number from 0 on."""
    return is_whole(thing) and thing >= 0


def is_between(thing, least, most):
    """Whether it is a whole number from least to most."""
    return isinstance(thing, int) and not isinstance(thing, bool) and least <= thing <= most


def is_worth(thing):
    """Whether it is None, a word, a number within the ends, or a tuple of worths."""
    return is_worth_within(thing, WORTH_LEVELS)


def is_worth_within(thing, levels):
    """Whether it is a worth with tuples at most so many levels within one another."""
    if not isinstance(thing, tuple):
        return thing is None or is_word(thing) or is_between(thing, -FARTHEST, FARTHEST)
    if levels == 0 or len(thing) > MOST_WORTHS:
        return False
    return all([is_worth_within(part, levels - 1) for part in thing])


def is_names(thing):
    """Whether it is a tuple of at most eight words."""
    if not isinstance(thing, tuple) or len(thing) > MOST_NAMES:
        return False
    return all([is_word(name) for name in thing])


def is_rank(thing):
    """Whether it is a rank that some loop may have."""
    return is_between(thing, 0, LAST_RANK)


def is_count(thing):
    """Whether it is a number that a deed may spend or wait."""
    return is_between(thing, 0, MOST_COUNT)


def is_gap(thing):
    """Whether it is a number that may lie between two dues."""
    return is_between(thing, 1, MOST_COUNT)


def is_due(thing):
    """Whether an idle deed may have it for its due."""
    return thing is None or is_count(thing)


CHECKS = {
    "word": is_word,
    "rank": is_rank,
    "count": is_count,
    "gap": is_gap,
    "due": is_due,
    "worth": is_worth,
    "names": is_names,
}


def parts_of(deed):
    """The parts behind a deed's own word, each with its kind ahead."""
    return list(zip(DEEDS[deed[0]], deed[1:]))


def is_script(thing):
    """Whether it is a tuple of deeds, not too many and not too deep."""
    return room_behind(thing, SCRIPT_LEVELS, MOST_DEEDS) is not None


def room_behind(thing, levels, room):
    """How many of so many deeds are left behind a script; None of what is no script."""
    if not isinstance(thing, tuple) or levels == 0 or len(thing) > room:
        return None
    # Taken off ahead of looking inside, so that a vast thing is refused soon.
    room -= len(thing)
    for deed in thing:
        if not isinstance(deed, tuple) or not deed or not isinstance(deed[0], str) or deed[0] not in DEEDS:
            return None
        room = room_behind_parts(deed, levels - 1, room)
        if room is None:
            return None
    return room


def room_behind_parts(deed, levels, room):
    """The room behind the scripts in a deed; None where it has more or fewer parts, or one of another kind."""
    kinds = DEEDS[deed[0]]
    if len(deed) != 1 + len(kinds):
        return None
    at = 0
    for kind in kinds:
        at += 1
        part = deed[at]
        if kind == "word":
            if not is_word(part):
                return None
        elif kind == "script" or kind == "perhaps" and part is not None:
            room = room_behind(part, levels, room)
            if room is None:
                return None
        elif kind != "perhaps" and not fits(kind, part):
            return None
    return room


def fits(kind, part):
    """Whether a part without scripts is of this kind."""
    check = CHECKS[kind]
    return check(part)


def scripts_of(deed):
    """The scripts that stand right in a deed."""
    return [part for kind, part in parts_of(deed) if kind in SCRIPT_KINDS and part is not None]


def deeds_in(script):
    """How many deeds a script has, those of the scripts in it too."""
    many = len(script)
    for deed in script:
        many += sum([deeds_in(inner) for inner in scripts_of(deed)])
    return many


def words_in(script):
    """The words of a script but the deeds' own, once each, sorted."""
    return sorted(set(all_words(script)))


def all_words(script):
    """The words of a script, each as often as it stands there."""
    words = []
    for deed in script:
        for kind, part in parts_of(deed):
            if kind not in SCRIPT_KINDS:
                words.extend(words_of_worth(part))
        for inner in scripts_of(deed):
            words.extend(all_words(inner))
    return words


def words_of_worth(worth):
    """The words of a worth, or of a tuple of names."""
    if isinstance(worth, str):
        return [worth]
    words = []
    if isinstance(worth, tuple):
        for part in worth:
            words.extend(words_of_worth(part))
    return words
