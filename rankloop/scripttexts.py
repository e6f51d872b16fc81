"""Scripts and worths as texts, and scripts read from their texts."""

from rankloop.errors import NoText
from rankloop.scripts import SCRIPT_KINDS, is_script, parts_of

OPENING = ("(", "[", "<")
CLOSING = (")", "]", ">")
# The farthest number has so many; one of more is never handed to int.
MOST_FIGURES = 10


def show_script(script):
    """The text of a script."""
    return " ".join(shown_deeds(script))


def shown_deeds(script):
    """The texts of a script's deeds, in order."""
    return [show_deed(deed) for deed in script]


def show_deed(deed):
    """The text of a deed."""
    parts = [show_part(kind, part) for kind, part in parts_of(deed)]
    return bracketed("(", [deed[0], *parts], ")")


def show_part(kind, part):
    """The text of a deed's part of this kind."""
    if kind in SCRIPT_KINDS and part is not None:
        return bracketed("[", shown_deeds(part), "]")
    return show_worth(part)


def show_worth(worth):
    """The text of a worth, or of a tuple of names."""
    if worth is None:
        return "-"
    return bracketed("<", [show_worth(part) for part in worth], ">") if isinstance(worth, tuple) else f"{worth}"


def show_parts(parts):
    """The text of worths, parted by single blanks."""
    return " ".join([show_worth(part) if part is None or isinstance(part, tuple) else f"{part}" for part in parts])


def show_event(event):
    """The text of a journal's event."""
    last = event[-1]
    if last is None or isinstance(last, tuple):
        return show_parts(event)
    # All parts are words or numbers then, and most events are of these lengths.
    if len(event) == 3:
        now, word, part = event
        return f"{now} {word} {part}"
    if len(event) == 5:
        now, word, number, rank, why = event
        return f"{now} {word} {number} {rank} {why}"
    return show_parts(event)


def bracketed(opening, texts, closing):
    """Texts between two brackets, all parted by single blanks."""
    return " ".join([opening, *texts, closing])


def read_script(text):
    """The script that has this text; NoText where none has it."""
    if not isinstance(text, str):
        raise NoText(0)
    script = () if text == "" else nested(text.split(" "))
    # The brackets' kinds, noughts ahead and the like are judged here: by what is written of it.
    if not is_script(script) or show_script(script) != text:
        raise NoText(0)
    return script


def nested(signs):
    """Signs as tuples within one another, by their brackets of any kind."""
    # No call within a call: a text may have more brackets within one another than Python has calls.
    around = []
    inner = []
    for sign in signs:
        if sign in OPENING:
            around.append(inner)
            inner = []
        elif sign in CLOSING:
            if not around:
                raise NoText(0)
            closed = tuple(inner)
            inner = around.pop()
            inner.append(closed)
        else:
            inner.append(plain(sign))
    if around:
        raise NoText(0)
    return tuple(inner)


def plain(sign):
    """The worth that a sign without brackets stands for."""
    if sign == "-":
        return None
    figures = sign.removeprefix("-")
    if len(figures) <= MOST_FIGURES and figures.isascii() and figures.isdigit():
        return int(sign)
    return sign
