"""The rows that a desk is told: texts of words with single blanks."""

from rankloop.errors import NoRow, NoText
from rankloop.scripts import is_word
from rankloop.scripttexts import read_script

MOST_FIGURES = 4
MOST_RANKS = 6
MOST_PATIENCE = 9
# The kinds of words behind the first one, but for loop and post.
FORMS = {
    "turns": ("name", "number"),
    "journal": ("name",),
    "new": ("name",),
    "promise": ("name", "name"),
    "lines": ("name",),
    "copy": ("name", "name"),
    "mark": ("name",),
    "back": ("name",),
    "drop": ("name",),
    "names": (),
}


def read_desk_row(row):
    """A list of a row's first word and what the others stand for; NoRow of what is no row."""
    if not isinstance(row, str):
        raise NoRow(row)
    word, *words = row.split(" ")
    if word == "loop":
        parts = loop_parts(words)
    elif word == "post":
        parts = post_parts(words)
    else:
        parts = parts_by_form(FORMS.get(word), words)
    if parts is None:
        raise NoRow(row)
    return [word, *parts]


def parts_by_form(form, words):
    """What words of these kinds stand for; None where they are others."""
    if form is None or len(words) != len(form):
        return None
    parts = [part_of(kind, word) for kind, word in zip(form, words)]
    return None if None in parts else parts


def part_of(kind, word):
    """What a word of this kind stands for; None where it is another one."""
    if kind == "number":
        return number_of(word)
    return word if is_word(word) else None


def number_of(word):
    """The number that a word of figures stands for; None of any other word."""
    if len(word) > MOST_FIGURES or not word.isascii() or not word.isdigit():
        return None
    return None if word.startswith("0") and word != "0" else int(word)


def loop_parts(words):
    """A name, how many ranks, and their patiences or None; None where these are no such words."""
    parts = parts_by_form(("name", "number"), words[:2])
    if parts is None or not 1 <= parts[1] <= MOST_RANKS:
        return None
    if len(words) == 2:
        return [*parts, None]
    if words[2] != "patience" or len(words) != 3 + parts[1]:
        return None
    bears = [None if word == "-" else number_of(word) for word in words[3:]]
    if not all([word == "-" or many is not None and many <= MOST_PATIENCE for word, many in zip(words[3:], bears)]):
        return None
    return [*parts, tuple(bears)]


def post_parts(words):
    """A name, a rank, a work's name and a script; None where these are no such words."""
    parts = parts_by_form(("name", "number", "name"), words[:3])
    # An empty script is no word at all, not an empty one.
    if parts is None or "" in words:
        return None
    try:
        return [*parts, read_script(" ".join(words[3:]))]
    except NoText:
        return None
