"""How often a rank is passed over at most, whatever comes, or how it may wait for ever.

A row is a tuple of passes, as chosen is told them. Works come ahead of a
turn, to ranks that have none; behind it the chosen rank has none.
"""

from rankloop.lines import chosen


def most_passed(patience, rank):
    """The most passes of a rank's first work with comings and rows for it, or comings by which it waits for ever."""
    if patience[rank] is None and rank > 0:
        # Rank 0 is always the least one, and the asked rank is never overdue.
        return ("ever", [(0, rank)], [(0,)])
    if patience[rank] is None:
        waiting = waiting_for_ever(patience)
        if waiting is not None:
            return ("ever", *waiting)
    ranks = list(range(len(patience)))
    ways = all_ways(patience, [at == rank or patience[at] is not None for at in ranks], ranks)
    many = max([row[rank] for row in ways if row[rank] is not None], default=0)
    reached = [row for row in ways if row[rank] == many]
    comings = way_to(ways, reached[0]) if many > 0 else []
    return ("most", many, comings, list(ways))


def all_ways(patience, counted, ranks):
    """All rows that turns lead to, where works come to these ranks only.

    To each row the way is told by which it was found: the row ahead of it,
    and what came. Passes are told as 0 at the ranks that aren't counted.
    """
    start = (None,) * len(patience)
    ways = {start: None}
    found = [start]
    while found:
        row = found.pop(0)
        for coming in all_comings(row, ranks):
            behind = row_behind(row, coming, patience, counted)
            if behind not in ways:
                ways[behind] = (row, coming)
                found.append(behind)
    return ways


def all_comings(row, ranks):
    """All tuples of ranks without works that may get one, such that somebody stands in a line then."""
    comings = [()]
    for rank in ranks:
        if row[rank] is None:
            comings = comings + [(*coming, rank) for coming in comings]
    return [coming for coming in comings if coming or row != (None,) * len(row)]


def row_behind(row, coming, patience, counted):
    """The row behind a turn with these works come ahead of it."""
    standing = [0 if rank in coming else many for rank, many in enumerate(row)]
    gone = chosen(standing, patience)
    return tuple([passes_behind(standing[rank], rank == gone, counted[rank]) for rank in range(len(row))])


def passes_behind(many, is_gone, is_counted):
    """The passes of a rank behind a turn."""
    if many is None or is_gone:
        return None
    return many + 1 if is_counted else 0


def way_to(ways, row):
    """The comings that lead to a row."""
    comings = []
    while ways[row] is not None:
        row, coming = ways[row]
        comings.append(coming)
    return comings[::-1]


def waiting_for_ever(patience):
    """Comings that lead to a row in which rank 0, without patience, waits, and from there to it again; or None."""
    # Another rank without patience is never chosen where rank 0 stands.
    ranks = [rank for rank, bears in enumerate(patience) if rank == 0 or bears is not None]
    counted = [bears is not None for bears in patience]
    ways = all_ways(patience, counted, ranks)
    steps = {row: steps_from(row, ranks, patience, counted) for row in ways if row[0] is not None}
    steps = lasting(steps)
    if len(steps) == 0:
        return None
    row, again = ring_in(steps)
    return (way_to(ways, row), again)


def steps_from(row, ranks, patience, counted):
    """What may come at a row where rank 0 waits, and the row behind, as far as it waits on."""
    steps = [(coming, row_behind(row, coming, patience, counted)) for coming in all_comings(row, ranks)]
    return [(coming, behind) for coming, behind in steps if behind[0] is not None]


def lasting(steps):
    """The steps but those to rows from which none leads on and on."""
    many = None
    while many != len(steps):
        many = len(steps)
        kept = {row: [step for step in steps[row] if step[1] in steps] for row in steps}
        steps = {row: kept[row] for row in kept if kept[row]}
    return steps


def ring_in(steps):
    """A row to which steps lead back, and the comings by which they do."""
    row = list(steps)[0]
    places = {}
    comings = []
    while row not in places:
        places[row] = len(comings)
        coming, behind = steps[row][0]
        comings.append(coming)
        row = behind
    return (row, comings[places[row]:])
