"""Derivations of rows from rows of certificates, which can be checked without the set."""

from keptbythree.entries import base, combined, moved
from keptbythree.errors import BadRow
from keptbythree.rows import is_row
from keptbythree.values import is_value


def derivation(closed, row):
    """Rows of the certificate of the set, and the steps by which combinations lead from them to the row."""
    if not closed.has(row):
        raise BadRow(row)
    near = base(closed._entries)
    rows = {near: 0}
    pairs = []
    for place, entry in enumerate(closed._entries):
        if near[place] != row[place]:
            group = entry[near[place]]
            pair = (group[near[place]], group[row[place]])
            for used in pair:
                rows.setdefault(used, len(rows))
            pairs.append(pair)
            near = moved(closed._tables, closed._entries, near, place, row[place])
    return list(rows), _steps(rows, pairs)


def _steps(rows, pairs):
    """The steps, each from the row made before, by pairs of rows with these numbers. The first one is from row 0."""
    steps = []
    last = 0
    for old, new in pairs:
        steps.append((last, rows[old], rows[new]))
        last = len(rows) + len(steps) - 1
    return steps


def derives(kinds, rows, steps, row):
    """Whether rows and steps, any values, are a derivation of the row, any value."""
    if not isinstance(rows, list) or not isinstance(steps, list) or not rows:
        return False
    if not all([is_row(kinds, given) for given in [*rows, row]]):
        return False
    tables = [kind.table for kind in kinds]
    made = list(rows)
    for step in steps:
        if not _is_step(step, len(made)):
            return False
        x, y, z = [made[number] for number in step]
        made.append(combined(tables, x, y, z))
    return made[-1] == row


def _is_step(thing, many):
    """Whether the thing, any value, is a tuple of three indices below a number."""
    return isinstance(thing, tuple) and len(thing) == 3 and all([is_value(index, many) for index in thing])
