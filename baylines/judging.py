"""What judges of papers have in common."""


def first_fault(place, unlike, away, unlike_ends):
    """Return the first fault of the item at place in a paper, None if it has none.

    unlike and away tell of each kind whether unlike things come out by it,
    and whether it leads to what is no item of the paper.
    """
    for word, faults in (("out", unlike), ("leads", away)):
        if True in faults:
            return (word, place, faults.index(True))
    return ("ending", place) if unlike_ends else None
