"""A looker: whether a thing is what most_passed may tell. It seeks nothing, it only goes through what is there."""

from rankloop.scripts import is_between, is_from_0
from rankloop.starving import all_comings, row_behind


def shows_most(patience, rank, thing):
    """Whether a thing is a tuple by which the most passes of a rank, or that it may wait for ever, can be seen."""
    if not isinstance(thing, tuple):
        return False
    if len(thing) == 4 and thing[0] == "most":
        return is_most(patience, rank, thing)
    return len(thing) == 3 and thing[0] == "ever" and is_ever(patience, rank, thing)


def is_most(patience, rank, thing):
    """Whether comings reach just as many passes as are told, and rows show that there are never more."""
    word, many, comings, rows = thing
    if not is_from_0(many) or not is_comings(comings, len(patience)) or not is_rows(rows, patience, rank):
        return False
    return reaches(patience, rank, many, comings) and is_closed(patience, rank, many, rows)


def is_ever(patience, rank, thing):
    """Whether comings lead to a row in which the rank waits, and others from there to it again while it waits on."""
    word, comings, again = thing
    if patience[rank] is not None:
        return False
    if not is_comings(comings, len(patience)) or not is_comings(again, len(patience)):
        return False
    if len(comings) == 0 or len(again) == 0:
        return False
    first = rows_behind(patience, rank, none_alone(patience), comings)
    if first is None or first[-1][rank] is None:
        return False
    ring = rows_behind(patience, rank, first[-1], again)
    if ring is None or None in [row[rank] for row in ring]:
        return False
    return but_at(ring[-1], rank) == but_at(first[-1], rank)


def but_at(row, rank):
    """A row with this rank's own passes left aside."""
    return row[:rank] + row[rank + 1:]


def is_comings(thing, ranks):
    """Whether it is a list of rising tuples of ranks."""
    return isinstance(thing, list) and all([is_coming(coming, ranks) for coming in thing])


def is_coming(thing, ranks):
    """Whether it is a rising tuple of ranks."""
    if not isinstance(thing, tuple) or not all([is_between(rank, 0, ranks - 1) for rank in thing]):
        return False
    return list(thing) == sorted(set(thing))


def is_rows(thing, patience, rank):
    """Whether it is a list of rows of passes; a row may stand there more than once."""
    return isinstance(thing, list) and all([is_row(row, patience, rank) for row in thing])


def is_row(thing, patience, rank):
    """Whether it is a tuple of passes, 0 for any number at the ranks that aren't counted."""
    if not isinstance(thing, tuple) or len(thing) != len(patience):
        return False
    counted = counted_ranks(patience, rank)
    return all([many is None or is_from_0(many) and (of_rank or many == 0) for many, of_rank in zip(thing, counted)])


def counted_ranks(patience, rank):
    """Of each rank whether its passes are counted: those with a patience, and the asked one."""
    return [at == rank or bears is not None for at, bears in enumerate(patience)]


def none_alone(patience):
    """The row of a loop without works."""
    return (None,) * len(patience)


def reaches(patience, rank, many, comings):
    """Whether the rank has so many passes behind the last turn with these comings; there are none where it is 0."""
    if len(comings) == 0:
        return many == 0
    rows = rows_behind(patience, rank, none_alone(patience), comings)
    return rows is not None and rows[-1][rank] == many


def rows_behind(patience, rank, row, comings):
    """The rows behind each turn with these comings; None where works can't come so."""
    counted = counted_ranks(patience, rank)
    rows = []
    for coming in comings:
        if not may_come(row, coming):
            return None
        row = row_behind(row, coming, patience, counted)
        rows.append(row)
    return rows


def may_come(row, coming):
    """Whether these ranks have no works, and somebody stands in a line then."""
    if not all([row[rank] is None for rank in coming]):
        return False
    return len(coming) > 0 or row != (None,) * len(row)


def is_closed(patience, rank, many, rows):
    """Whether no turn leads out of the rows, the row of None alone among them, and none has more passes at the rank."""
    known = {row: True for row in rows}
    if none_alone(patience) not in known:
        return False
    counted = counted_ranks(patience, rank)
    ranks = list(range(len(patience)))
    for row in known:
        if row[rank] is not None and row[rank] > many:
            return False
        for coming in all_comings(row, ranks):
            if row_behind(row, coming, patience, counted) not in known:
                return False
    return True
