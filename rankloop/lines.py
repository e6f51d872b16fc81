"""Which rank is chosen of those that have works."""


def is_overdue(passes, patience):
    """Whether a rank's first work was passed over as often as its patience bears."""
    return passes is not None and patience is not None and passes >= patience


def chosen(passes, patience):
    """The rank whose first work is to be done; None where no rank has one."""
    best = None
    most = None
    for rank, (many, bears) in enumerate(zip(passes, patience)):
        if is_overdue(many, bears) and (most is None or many - bears > most):
            best = rank
            most = many - bears
    return least_standing(passes) if best is None else best


def least_standing(passes):
    """The least rank with a work; None where there is none."""
    for rank, many in enumerate(passes):
        if many is not None:
            return rank
    return None
