"""Comparisons of sets by the rows of their certificates."""

from keptbythree.checks import check_same_kinds


def difference(one, other):
    """The first row of the certificate of one that is not in the other set, or None if each row of one is in it."""
    check_same_kinds(one.kinds, other.kinds)
    for row in _rows_to_try(one):
        if not other.has(row):
            return row
    return None


def includes(one, other):
    """Whether each row of the other set is in one."""
    return difference(other, one) is None


def _rows_to_try(closed):
    """The rows of the certificate, which generate the set, in the order in which it is written."""
    if closed.is_empty:
        return []
    if closed.width == 0:
        return [()]
    return [row for entry in closed.certificate() for group in entry for _, row in group]
