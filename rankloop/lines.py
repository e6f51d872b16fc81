"""Which rank is chosen of those that have works."""


def chosen(passes, patience):
    """The rank whose first work is to be done; None where no rank has one."""
    least = None
    best = None
    most = -1
    for rank, many in enumerate(passes):
        if many is None:
            continue
        if least is None:
            least = rank
        bears = patience[rank]
        # From 0 on, so overdue, and more than that of the ranks ahead.
        if bears is not None and many - bears > most:
            best = rank
            most = many - bears
    return least if best is None else best
