"""Which rank is chosen [6]."""

import itertools
import unittest

from rankloop.lines import chosen


def plainly(passes, patience):
    """The same as the document's words, by sorting."""
    ranks = [rank for rank in range(len(passes)) if passes[rank] is not None]
    overdue = [rank for rank in ranks if patience[rank] is not None and passes[rank] >= patience[rank]]
    if overdue:
        return sorted(overdue, key=lambda rank: (patience[rank] - passes[rank], rank))[0]
    return ranks[0] if ranks else None


class Chosen(unittest.TestCase):
    def test_no_works(self):
        self.assertIsNone(chosen((None,), (None,)))
        self.assertIsNone(chosen((None,), (0,)))
        self.assertIsNone(chosen((None, None, None), (0, None, 3)))
        self.assertIsNone(chosen([None] * 6, [0] * 6))

    def test_one_rank(self):
        self.assertEqual(chosen((0,), (None,)), 0)
        self.assertEqual(chosen((0,), (9,)), 0)
        self.assertEqual(chosen((7,), (0,)), 0)

    def test_least_where_none_is_overdue(self):
        self.assertEqual(chosen((0, 0, 0), (None, None, None)), 0)
        self.assertEqual(chosen((None, 5, 9), (None, None, None)), 1)
        self.assertEqual(chosen((None, None, 8), (0, 0, 9)), 2)
        self.assertEqual(chosen((1, 2, 3), (2, 3, 4)), 0)

    def test_overdue(self):
        self.assertEqual(chosen((0, 3), (None, 3)), 1)
        self.assertEqual(chosen((0, 2), (None, 3)), 0)
        self.assertEqual(chosen((9, 4), (None, 3)), 1)

    def test_patience_0(self):
        self.assertEqual(chosen((0, 0), (None, 0)), 1)
        self.assertEqual(chosen((0, 0), (0, 0)), 0)
        self.assertEqual(chosen((0, 1), (0, 0)), 1)
        self.assertEqual(chosen((None, 0, 0), (0, None, 0)), 2)

    def test_several_overdue(self):
        self.assertEqual(chosen((5, 5, 5), (4, 3, 4)), 1)
        self.assertEqual(chosen((3, 4, 2), (1, 2, 0)), 0)
        self.assertEqual(chosen((None, 4, 2), (1, 2, 0)), 1)
        # The most passes more than the patience, not the most passes.
        self.assertEqual(chosen((9, 3), (9, 1)), 1)

    def test_all_small_ones(self):
        for passes in itertools.product((None, 0, 1, 2, 3), repeat=3):
            for patience in itertools.product((None, 0, 1, 2), repeat=3):
                self.assertEqual(chosen(passes, patience), plainly(passes, patience), (passes, patience))

    def test_lists_tuples_and_names(self):
        for passes in ((1, 0, None), [1, 0, None]):
            for patience in ((2, 0, 1), [2, 0, 1]):
                self.assertEqual(chosen(passes, patience), 1)
                self.assertEqual(chosen(passes=passes, patience=patience), 1)
                self.assertEqual(chosen(patience=patience, passes=passes), 1)

    def test_nothing_is_changed(self):
        passes, patience = [1, 0, None, 4], [2, 0, 1, None]
        chosen(passes, patience)
        self.assertEqual((passes, patience), ([1, 0, None, 4], [2, 0, 1, None]))


if __name__ == "__main__":
    unittest.main()
