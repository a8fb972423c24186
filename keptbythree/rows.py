"""Rows for a list of kinds, their combinations, and closed lists of rows."""

from keptbythree.errors import BadRow, NotClosed
from keptbythree.values import is_value


def is_row(kinds, thing):
    """Whether the thing, any value, is a row for the kinds."""
    if not isinstance(thing, tuple) or len(thing) != len(kinds):
        return False
    return all([is_value(value, kind.size) for kind, value in zip(kinds, thing)])


def combine(kinds, x, y, z):
    """The combination of three rows."""
    return _completed(_lines([kind.table for kind in kinds], x, y), z)


def missing(kinds, rows):
    """The first triple of the rows whose combination is not among them, or None if they are closed."""
    ordered = _distinct(kinds, rows)
    known = {row: True for row in ordered}
    tables = [kind.table for kind in kinds]
    columns = [[row[place] for row in ordered] for place in range(len(kinds))]
    # Many pairs of rows leave the same lines to the third row, above all where the kinds come from groups.
    right = {}
    for x in ordered:
        for y in ordered:
            lines = _lines(tables, x, y)
            if lines not in right:
                z = _first_outside(lines, columns, ordered, known)
                if z is not None:
                    return x, y, z
                right[lines] = True
    return None


def _first_outside(lines, columns, ordered, known):
    """The first of the rows whose combination with the two rows of these lines is not known, or None."""
    made = [[line[value] for value in column] for line, column in zip(lines, columns)]
    for combination, z in zip(zip(*made), ordered):
        if combination not in known:
            return z
    return None


def check_closed(kinds, rows):
    """Raises an error if an element of the list is not a row, or if the rows are not closed."""
    triple = missing(kinds, rows)
    if triple is not None:
        x, y, z = triple
        raise NotClosed(x, y, z)


def closure(kinds, rows):
    """The rows of the least closed set that contains these, in ascending order."""
    found = _distinct(kinds, rows)
    known = {row: True for row in found}
    most = _number_of_rows(kinds)
    tables = [kind.table for kind in kinds]
    # Each triple is combined once: in the round of the last found of its rows.
    rounds = 0
    while rounds < len(found) < most:
        rounds += 1
        made = _combinations_with_last(tables, found[:rounds])
        for row in made:
            if row not in known:
                known[row] = True
                found.append(row)
    return sorted(found)


def _distinct(kinds, rows):
    """The rows in ascending order, without duplicates."""
    for row in rows:
        if not is_row(kinds, row):
            raise BadRow(row)
    return sorted(set(rows))


def _number_of_rows(kinds):
    """How many rows there are for the kinds."""
    number = 1
    for kind in kinds:
        number *= kind.size
    return number


def _lines(tables, x, y):
    """What x and y leave to the third row: for each place the values of m, by the value of that row."""
    return tuple([table[first][second] for table, first, second in zip(tables, x, y)])


def _completed(lines, z):
    """The combination of the two rows of these lines with z."""
    return tuple([line[value] for line, value in zip(lines, z)])


def _combinations_with_last(tables, rows):
    """The combinations of those triples of the rows in which the last row occurs."""
    last = rows[-1]
    made = []
    for x in rows:
        for y in rows:
            lines = _lines(tables, x, y)
            thirds = rows if last in (x, y) else [last]
            made.extend([_completed(lines, z) for z in thirds])
    return made
