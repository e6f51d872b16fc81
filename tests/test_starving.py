"""How often a rank is passed over [21]."""

import itertools
import unittest

from rankloop.loops import Loop
from rankloop.starving import most_passed

KINDS = (None, 0, 1, 2, 3, 4)
# All of one to three ranks, and some of four.
SMALL = [patience for many in (1, 2, 3) for patience in itertools.product(KINDS, repeat=many)]
WIDE = list(itertools.product(KINDS, repeat=4))[::23]
CASES = [*SMALL, *WIDE, (4, 4, 4, 4), (None, 4, 4, 4), (0, 0, 0, 0), (4, 3, 2, 1), (1, 2, 3, 4), (None, 1, None, 1), (None, 1, 1, 1)]


def behind_turn(row, coming, patience):
    """The passes behind a turn, by the plain words; None where nobody stands in a line."""
    standing = list(row)
    for rank in coming:
        if standing[rank] is not None:
            return None
        standing[rank] = 0
    ranks = [rank for rank in range(len(row)) if standing[rank] is not None]
    if not ranks:
        return None
    late = [rank for rank in ranks if patience[rank] is not None and standing[rank] >= patience[rank]]
    gone = min(late, key=lambda rank: (patience[rank] - standing[rank], rank)) if late else ranks[0]
    return tuple([None if rank == gone or many is None else many + 1 for rank, many in enumerate(standing)])


def blurred(row, patience, rank):
    """A row with 0 for any number at the ranks without patience, but the asked one."""
    return tuple([0 if many is not None and at != rank and patience[at] is None else many for at, many in enumerate(row)])


def subsets(row):
    """All ranks that may get works."""
    free = [rank for rank, many in enumerate(row) if many is None]
    return [coming for many in range(len(free) + 1) for coming in itertools.combinations(free, many)]


def gone_through(test, row, comings, patience):
    """The rows behind each turn with these comings."""
    rows = []
    for coming in comings:
        test.assertIsInstance(coming, tuple)
        test.assertEqual(list(coming), sorted(set(coming)))
        row = behind_turn(row, coming, patience)
        test.assertIsNotNone(row)
        rows.append(row)
    return rows


def in_a_loop(patience, comings):
    """The passes of a loop behind turns with these comings."""
    loop = Loop(ranks=len(patience), patience=patience)
    for coming in comings:
        for rank in coming:
            loop.post((), rank=rank)
        loop.turn()
    return tuple(loop.passes())


class Starving(unittest.TestCase):
    def look_at_most(self, patience, rank, told):
        word, many, comings, rows = told
        start = (None,) * len(patience)
        self.assertIs(many.__class__, int)
        self.assertIs(comings.__class__, list)
        self.assertIs(rows.__class__, list)
        self.assertIn(start, rows)
        reached = gone_through(self, start, comings, patience)
        if many == 0:
            self.assertEqual(comings, [])
        else:
            self.assertEqual(reached[-1][rank], many)
            self.assertEqual(in_a_loop(patience, comings), reached[-1])
        known = set(rows)
        self.assertEqual(len(known), len(rows))
        for row in rows:
            self.assertIs(row.__class__, tuple)
            self.assertLessEqual(row[rank] or 0, many)
            for coming in subsets(row):
                behind = behind_turn(row, coming, patience)
                if behind is not None:
                    self.assertIn(blurred(behind, patience, rank), known, (patience, rank, row, coming))

    def look_at_ever(self, patience, rank, told):
        word, comings, again = told
        self.assertIsNone(patience[rank])
        self.assertIs(comings.__class__, list)
        self.assertIs(again.__class__, list)
        self.assertNotEqual(again, [])
        first = gone_through(self, (None,) * len(patience), comings, patience)[-1]
        self.assertIsNotNone(first[rank])
        ring = gone_through(self, first, again, patience)
        self.assertEqual([row for row in ring if row[rank] is None], [])
        own = slice(rank, rank + 1)
        last, wanted = list(ring[-1]), list(first)
        del last[own], wanted[own]
        self.assertEqual(last, wanted)
        # It was passed over at each turn.
        self.assertEqual(ring[-1][rank], first[rank] + len(again))
        self.assertEqual(in_a_loop(patience, comings + again * 3)[rank], first[rank] + 3 * len(again))

    def test_each_rank(self):
        for patience in CASES:
            for rank in range(len(patience)):
                told = most_passed(patience, rank)
                self.assertIs(told.__class__, tuple)
                if told[0] == "most":
                    self.assertEqual(len(told), 4)
                    self.look_at_most(patience, rank, told)
                else:
                    self.assertEqual((told[0], len(told)), ("ever", 3))
                    self.look_at_ever(patience, rank, told)

    def test_known_ones(self):
        for patience, rank, many in (
            ((0,), 0, 0), ((4,), 0, 0), ((3, None), 0, 0), ((None, 0), 1, 0), ((None, 2), 1, 2), ((None, 4), 1, 4), ((None, 1), 0, 1),
            ((0, 0), 0, 1), ((0, 0), 1, 1), ((4, 0), 1, 1), ((None, 4, 4), 0, 2),
        ):
            self.assertEqual(most_passed(patience, rank)[:2], ("most", many), (patience, rank))

    def test_for_ever(self):
        for patience, rank in (((None, None), 1), ((0, None), 1), ((None, 0), 0), ((None, 1, 1), 0), ((None, None, 1, 1), 0),
                               ((None, None, 2, 3), 1), ((4, 4, 4, None), 3)):
            self.assertEqual(most_passed(patience, rank)[0], "ever", (patience, rank))

    def test_one_without_patience_that_never_waits_long(self):
        self.assertEqual(most_passed((None,), 0)[:3], ("most", 0, []))
        self.assertEqual(most_passed((None, None, None), 0)[:3], ("most", 0, []))
        self.assertEqual(most_passed((None, 3, None, None), 0)[:2], ("most", 1))

    def test_lists_and_names(self):
        patience = [None, 2, 1]
        told = most_passed(patience, 2)
        self.assertEqual(patience, [None, 2, 1])
        self.assertEqual(most_passed((None, 2, 1), 2), told)
        self.assertEqual(most_passed(rank=2, patience=patience), told)
        told[2].append("x")
        told[3].append("x")
        self.assertEqual(most_passed((None, 2, 1), 2)[2:], (told[2][:-1], told[3][:-1]))

    def test_lists_are_the_askers_own(self):
        told = most_passed((None, None), 1)
        told[1].append("x")
        told[2].append("x")
        self.assertEqual(most_passed((None, None), 1), ("ever", [(0, 1)], [(0,)]))


if __name__ == "__main__":
    unittest.main()
