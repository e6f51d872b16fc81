"""Each refusal: how it is made, its fields, and what it stands straight under."""

import inspect
import unittest

from rankloop import errors
from rankloop.errors import Busy, NoLoop, NoMark, NoPromise, NoRank, NoRow, NoScript, NoText, TooMany, Undone

FIELDS = [
    (NoText, ValueError, ["row"]),
    (NoRow, ValueError, ["row"]),
    (NoScript, ValueError, ["thing"]),
    (TooMany, ValueError, ["most"]),
    (NoLoop, KeyError, ["name"]),
    (NoPromise, KeyError, ["name"]),
    (NoMark, KeyError, ["name"]),
    (NoRank, IndexError, ["rank"]),
    (Busy, RuntimeError, []),
    (Undone, LookupError, ["row", "why"]),
]
THINGS = [None, True, 0, -3, 10 ** 5000, "", "text", "9" * 5000, (), (1, "a"), [1, [2]], {"a": [None]}, NoText(7)]


class Refusals(unittest.TestCase):
    def test_each_stands_straight_under_its_own(self):
        for kind, base, _ in FIELDS:
            with self.subTest(kind=kind.__name__):
                self.assertEqual(kind.__bases__, (base,))
                self.assertEqual(kind.__module__, "rankloop.errors")

    def test_none_is_another(self):
        for kind, _, _ in FIELDS:
            for other, _, _ in FIELDS:
                if other is not kind:
                    self.assertFalse(issubclass(kind, other), (kind, other))

    def test_there_are_no_others(self):
        told = {kind for _, kind in inspect.getmembers(errors, inspect.isclass)}
        self.assertEqual(told, {kind for kind, _, _ in FIELDS})

    def test_made_by_places_and_by_names(self):
        for kind, _, fields in FIELDS:
            for at in range(len(THINGS)):
                worths = [THINGS[(at + step) % len(THINGS)] for step in range(len(fields))]
                named = dict(zip(fields, worths))
                backward = dict(reversed(list(named.items())))
                for error in (kind(*worths), kind(**named), kind(**backward)):
                    self.assertEqual(vars(error), named)
                    for field, worth in named.items():
                        self.assertIs(getattr(error, field), worth)

    def test_made_of_just_the_fields(self):
        for kind, _, fields in FIELDS:
            with self.assertRaises(TypeError):
                kind(*[1] * (len(fields) + 1))
            with self.assertRaises(TypeError):
                kind(*[1] * len(fields), other=1)
            if fields:
                with self.assertRaises(TypeError):
                    kind()

    def test_raised_and_shown_with_any_field(self):
        for kind, base, fields in FIELDS:
            for thing in THINGS:
                with self.assertRaises(base) as caught:
                    raise kind(*[thing] * len(fields))
                self.assertIs(type(caught.exception), kind)
                self.assertIsInstance(str(caught.exception), str)
                self.assertIsInstance(repr(caught.exception), str)


if __name__ == "__main__":
    unittest.main()
