"""A looker for what most_passed tells [22]."""

import copy
import itertools
import random
import unittest

from rankloop.starvelooks import shows_most
from rankloop.starving import most_passed
from samples import anything
from test_starving import KINDS, WIDE, behind_turn, blurred, subsets

SMALL = [patience for many in (1, 2) for patience in itertools.product(KINDS, repeat=many)]
SOME = list(itertools.product(KINDS, repeat=3))[::7]
MOSTS = (((None, 2), 1), ((None, 1), 0), ((4, 0), 1), ((0, 1, 2), 2), ((None, 4, 4), 0), ((2, 3, 1, 4), 3), ((None, 1, None, 2), 1))
EVERS = (((None, None), 1), ((None, 0), 0), ((None, 1, 1), 0), ((4, 4, 4, None), 3), ((None, None, 2, 3), 1))


def is_so(patience, rank, thing):
    """By the plain words, of a tuple whose parts have the right kinds: whether it shows what it tells."""
    start = (None,) * len(patience)

    def gone(row, comings):
        rows = []
        for coming in comings:
            if list(coming) != sorted(set(coming)) or row is None or not set(coming) <= set(range(len(patience))):
                return None
            row = behind_turn(row, coming, patience)
            rows.append(row)
        return None if None in rows else rows

    if thing[0] == "ever":
        first = gone(start, thing[1])
        if patience[rank] is not None or not first or first[-1][rank] is None:
            return False
        ring = gone(first[-1], thing[2])
        if not ring or None in [row[rank] for row in ring]:
            return False
        ends = [[many for at, many in enumerate(blurred(row, patience, rank)) if at != rank] for row in (first[-1], ring[-1])]
        return ends[0] == ends[1]
    many, comings, rows = thing[1:]
    reached = gone(start, comings)
    if reached is None or start not in rows:
        return False
    if many == 0 and comings or many > 0 and (not reached or reached[-1][rank] != many):
        return False
    for row in rows:
        if len(row) != len(patience) or blurred(row, patience, rank) != row or (row[rank] or 0) > many:
            return False
        for coming in subsets(row):
            behind = behind_turn(row, coming, patience)
            if behind is not None and blurred(behind, patience, rank) not in rows:
                return False
    return True


def changed(rows, at, *others):
    """A list with other things in the place of one."""
    return [*rows[:at], *others, *rows[at + 1:]]


def other_comings(comings, ranks):
    """Lists of comings that are otherwise in one thing."""
    told = [[*comings, ()], [*comings, (0,)], [(), *comings], [*comings, tuple(range(ranks))], [*comings, (ranks,)], [*comings, (-1,)]]
    for at, coming in enumerate(comings):
        told.append(changed(comings, at))
        told.append(changed(comings, at, coming, coming))
        told.append(changed(comings, at, ()))
        for rank in range(ranks):
            told.append(changed(comings, at, tuple(sorted({*coming, rank}))))
            told.append(changed(comings, at, tuple(sorted({*coming} - {rank}))))
            told.append(changed(comings, at, (*coming, rank)))
            told.append(changed(comings, at, (rank, *coming)))
        told.append(changed(comings, at, coming[::-1]))
        told.append(changed(comings, at, coming + coming))
    return told


class Shows(unittest.TestCase):
    def look(self, patience, rank, thing):
        """What the looker tells, which leaves all as it was."""
        before = copy.deepcopy((patience, thing))
        told = shows_most(patience, rank, thing)
        self.assertIn(told, (True, False))
        self.assertIs(told.__class__, bool)
        self.assertEqual((patience, thing), before)
        self.assertIs(shows_most(list(patience), rank, thing), told)
        return told

    def judge(self, patience, rank, thing):
        self.assertIs(self.look(patience, rank, thing), is_so(patience, rank, thing), (patience, rank, thing))

    def test_what_most_passed_tells(self):
        for patience in [*SMALL, *SOME, *WIDE]:
            for rank in range(len(patience)):
                self.assertIs(shows_most(patience, rank, most_passed(patience, rank)), True, (patience, rank))

    def test_by_name(self):
        self.assertIs(shows_most(thing=most_passed((None, 2), 1), rank=1, patience=(None, 2)), True)

    def test_other_numbers(self):
        for patience in [*SMALL, *SOME]:
            for rank in range(len(patience)):
                told = most_passed(patience, rank)
                if told[0] == "most":
                    for many in (told[1] - 1, told[1] + 1, told[1] + 100, -1):
                        self.assertIs(self.look(patience, rank, ("most", many, *told[2:])), False, (patience, rank, many))

    def test_no_passes_and_yet_comings(self):
        for patience, rank in (((0,), 0), ((3, None), 0), ((None, 0), 1)):
            told = most_passed(patience, rank)
            self.assertEqual(told[1:3], (0, []))
            self.assertIs(self.look(patience, rank, ("most", 0, [(rank,)], told[3])), False)

    def test_other_comings(self):
        for patience, rank in MOSTS:
            word, many, comings, rows = most_passed(patience, rank)
            self.assertEqual(word, "most")
            for other in other_comings(comings, len(patience)):
                self.judge(patience, rank, ("most", many, other, rows))
            for at in range(len(comings)):
                self.assertIs(self.look(patience, rank, ("most", many, changed(comings, at), rows)), False)

    def test_longer_comings_that_reach_as_many(self):
        word, many, comings, rows = most_passed((None, 2), 1)
        self.assertEqual(comings, [(0, 1), (0,)])
        for other in ([(0,), *comings], [(1,), (0,), *comings], [(0, 1), (0,), (), *comings]):
            self.assertIs(self.look((None, 2), 1, ("most", 2, other, rows)), True)
        # An empty coming, where somebody stands in a line.
        self.assertIs(self.look((None, 2), 1, ("most", 2, [(0, 1), (), *comings], rows)), True)

    def test_other_rows(self):
        for patience, rank in MOSTS:
            word, many, comings, rows = most_passed(patience, rank)
            more = tuple([None if at != rank else many + 1 for at in range(len(patience))])
            none = rows.index((None,) * len(patience))
            wrong = [changed(rows, none), [*rows, more], [], [*rows, (None,) * (len(patience) + 1)], [*rows, rows[0][:-1]], [*rows, more, more]]
            for other in wrong:
                self.assertIs(self.look(patience, rank, ("most", many, comings, other)), False, (patience, rank))
            for at in range(len(rows)):
                # All of these are come to.
                self.assertIs(shows_most(patience, rank, ("most", many, comings, changed(rows, at))), False)
            self.assertIs(self.look(patience, rank, ("most", many, comings, rows[::-1])), True)

    def test_rows_that_stand_more_than_once(self):
        for patience, rank in MOSTS:
            word, many, comings, rows = most_passed(patience, rank)
            for twice in ([*rows, rows[0]], [rows[-1], *rows], rows + rows, rows * 3, [row for row in rows for _ in range(2)]):
                self.assertIs(self.look(patience, rank, ("most", many, comings, twice)), True, (patience, rank))
                self.assertIs(self.look(patience, rank, ("most", many + 1, comings, twice)), False)
                self.assertIs(self.look(patience, rank, ("most", many, comings[:-1], twice)), False)
                for row in rows:
                    # One that is missing isn't made up for by another one that stands there twice.
                    self.assertIs(shows_most(patience, rank, ("most", many, comings, [other for other in twice if other != row])), False)
                self.assertIs(self.look(patience, rank, ("most", many, comings, [*twice, list(rows[0])])), False)

    def test_the_row_of_none_alone_twice(self):
        self.assertIs(self.look((None,), 0, ("most", 0, [], [(None,), (None,)])), True)
        self.assertIs(self.look((None,), 0, ("most", 0, [], [])), False)

    def test_more_rows(self):
        chance = random.Random(1)
        answers = {True: 0, False: 0}
        for patience, rank in MOSTS:
            word, many, comings, rows = most_passed(patience, rank)
            for _ in range(60):
                row = tuple([chance.choice((None, 0, 1, 2, 3, 4, 5, 9)) for _ in patience])
                thing = ("most", many, comings, [*rows, row])
                self.judge(patience, rank, thing)
                answers[shows_most(patience, rank, thing)] += 1
        self.assertGreater(min(answers.values()), 5, answers)

    def test_more_rows_that_are_closed(self):
        # No turn leads to a rank 2 with so many passes, but from there all turns lead into the rows.
        patience = (None, 1, 3)
        word, many, comings, rows = most_passed(patience, 1)
        closed = list(rows)
        found = [(None, None, 7)]
        while found:
            row = found.pop()
            if row not in closed:
                closed.append(row)
                behind = [behind_turn(row, coming, patience) for coming in subsets(row)]
                found.extend([blurred(other, patience, 1) for other in behind if other is not None])
        self.assertGreater(len(closed), len(rows))
        self.assertIs(self.look(patience, 1, ("most", many, comings, closed)), True)
        for at in range(len(rows), len(closed) - 1):
            self.judge(patience, 1, ("most", many, comings, changed(closed, at)))

    def test_any_number_stands_as_0(self):
        word, many, comings, rows = most_passed((None, 2), 1)
        self.assertIn((0, None), [blurred(row, (None, 2), 1) for row in [(5, None)]])
        self.assertIs(self.look((None, 2), 1, ("most", many, comings, [*rows, (5, None)])), False)

    def test_other_rings(self):
        for patience, rank in EVERS:
            word, comings, again = most_passed(patience, rank)
            self.assertEqual(word, "ever")
            self.assertIs(self.look(patience, rank, ("ever", comings, again)), True)
            self.assertIs(self.look(patience, rank, ("ever", comings, again * 3)), True)
            self.assertIs(self.look(patience, rank, ("ever", comings, [])), False)
            self.assertIs(self.look(patience, rank, ("ever", [], again)), False)
            for other in other_comings(comings, len(patience)):
                self.judge(patience, rank, ("ever", other, again))
            for other in other_comings(again, len(patience)):
                self.judge(patience, rank, ("ever", comings, other))

    def test_a_ring_that_does_not_lead_back(self):
        self.assertIs(self.look((None, None), 1, ("ever", [(0, 1)], [(0,)])), True)
        self.assertIs(self.look((None, 0, None), 2, ("ever", [(0, 2)], [(0, 1)])), False)

    def test_a_ring_in_which_it_does_not_wait_on(self):
        self.assertIs(self.look((None, None), 1, ("ever", [(0, 1)], [(), (0, 1)])), False)
        self.assertIs(self.look((None, None), 1, ("ever", [(0,)], [(0,)])), False)
        # It waits from the ring's first turn on, but not in the row ahead of that.
        self.assertIs(self.look((None, None), 1, ("ever", [(0,)], [(0, 1)])), False)

    def test_passes_of_others_without_patience_are_any_number(self):
        self.assertIs(self.look((None, None, None), 1, ("ever", [(0, 1, 2)], [(0,)])), True)

    def test_a_rank_with_a_patience(self):
        for patience in (0, 3, 4):
            self.assertIs(self.look((None, patience), 1, ("ever", [(0, 1)], [(0,)])), False)

    def test_kinds(self):
        for patience, rank in (*MOSTS, *EVERS):
            told = most_passed(patience, rank)
            for thing in otherwise(told):
                self.assertIs(self.look(patience, rank, thing), False, (patience, rank, thing))

    def test_for_others(self):
        cases = [*MOSTS, *EVERS, ((None, 3), 1), ((1, None), 0), ((None, None, None, None), 3)]
        for patience, rank in cases:
            for others, other in cases:
                told = most_passed(others, other)
                fits = (told[0] == "ever" or len(others) == len(patience)) and is_so(patience, rank, told)
                self.assertIs(self.look(patience, rank, told), fits, (patience, rank, others, other))

    def test_another_rank(self):
        told = most_passed((None, 2, 3), 1)
        for rank in (0, 2):
            self.assertIs(self.look((None, 2, 3), rank, told), False)
        self.assertIs(self.look((None, 3, 3), 1, told), False)

    def test_of_anything(self):
        told = most_passed((None, 2), 1)
        ever = most_passed((None, None), 1)
        things = [*anything(), told[:3], (*told, []), told[1:], ever[:2], (*ever, []), ("most",), ("ever",), ("most", 2), ("Most", *told[1:]),
                  ("most", *ever[1:]), ("ever", *told[1:]), ("ever", *told[2:]), [told], (told,), {"most": told}]
        for thing in things:
            self.assertIs(self.look((None, 2), 1, thing), False, thing)
            self.assertIs(self.look((None, None), 1, thing), False, thing)
        for part in anything():
            for at in range(1, 4):
                thing = (*told[:at], part, *told[at + 1:])
                if part != told[at]:
                    self.assertIs(self.look((None, 2), 1, thing), False, thing)
            for at in (1, 2):
                self.assertIs(self.look((None, None), 1, (*ever[:at], part, *ever[at + 1:])), False)
            self.assertIs(self.look((None, 2), 1, ("most", 2, [part, *told[2]], told[3])), False)
            self.assertIs(self.look((None, 2), 1, ("most", 2, told[2], [*told[3], part])), False)
            # None and 0 make rows that are there already.
            again = part is None or part.__class__ is int and part == 0
            self.assertIs(self.look((None, 2), 1, ("most", 2, told[2], [*told[3], (part, None)])), again, part)


def otherwise(thing):
    """A tuple of texts, numbers, lists and tuples with one thing in it of another kind."""
    if thing is None:
        return [False, 0.0, ""]
    if isinstance(thing, str):
        return [None, thing + " ", thing.encode(), (thing,)]
    if isinstance(thing, int):
        return [float(thing), str(thing), *([bool(thing)] if thing < 2 else [])]
    told = [list(thing) if isinstance(thing, tuple) else tuple(thing)]
    for at, part in enumerate(thing):
        for other in otherwise(part):
            told.append((*thing[:at], other, *thing[at + 1:]) if isinstance(thing, tuple) else changed(thing, at, other))
    return told


if __name__ == "__main__":
    unittest.main()
