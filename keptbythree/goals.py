"""Goals: the rows of a set with wanted values at some of its places, found without a list of the rows."""

from keptbythree.entries import combined, groups


def values_at(row, places):
    """The values of the row at the places."""
    return tuple([row[place] for place in places])


def changes(entries, places):
    """For each place of the set, the pairs of different values at the given places that rows of one group have."""
    return [_pairs(entry, places) for entry in entries]


def _pairs(entry, places):
    """The pairs of one entry, without duplicates."""
    pairs = {}
    for group in groups(entry):
        marks = [values_at(group[value], places) for value in group]
        for x in marks:
            for y in marks:
                if x != y:
                    pairs[x, y] = True
    return list(pairs)


def levels(tables, changed, targets):
    """For each place the values that a row may have so that one that agrees with it before the place has a target.

    Behind the last place these are the targets alone. The tables are those of the given places. A row y and two rows
    t, u of a group at or behind a place give the combination of y, t and u, which agrees with y before this place.
    By walks, such combinations lead to all rows that agree with y, so the values that they lead to are all that occur.
    They lead back, too: therefore it is enough to begin with the targets.
    """
    known = {}
    made = [{marks: True for marks in targets}]
    for pairs in reversed(changed):
        more = [pair for pair in pairs if pair not in known]
        if more:
            for pair in more:
                known[pair] = True
            made.append(_spread(tables, made[-1], list(known)))
        else:
            made.append(made[-1])
    made.reverse()
    return made


def _spread(tables, begin, pairs):
    """All values to which combinations with the pairs lead, step by step, from those of the beginning."""
    found = {marks: True for marks in begin}
    todo = list(begin)
    while todo:
        marks = todo.pop()
        for first, second in pairs:
            made = combined(tables, marks, first, second)
            if made not in found:
                found[made] = True
                todo.append(made)
    return found


class Goal:
    """The rows with values of the last level at the places. The rows passed are of the set and can still lead there."""

    def __init__(self, tables, entries, places, reach):
        self._tables = tables
        self._entries = entries
        self._places = places
        self._reach = reach
        self._tables_at = values_at(tables, places)

    def near(self, row, place, value):
        """The row moved to the value at the place, or None if it cannot lead to the goal from there on."""
        group = self._entries[place][row[place]]
        trio = (row, group[row[place]], group[value])
        first, second, third = [values_at(one, self._places) for one in trio]
        if combined(self._tables_at, first, second, third) not in self._reach[place + 1]:
            return None
        return combined(self._tables, row, group[row[place]], group[value])

    def steered(self, row, place):
        """The least row of the goal that agrees with the row before the place."""
        for at in range(place, len(self._entries)):
            row = self._steered_at(row, at)
        return row

    def _steered_at(self, row, place):
        """The row moved to the least value at the place from which it can lead to the goal."""
        for value in self._entries[place][row[place]]:
            made = self.near(row, place, value)
            if made is not None:
                return made
        return None

    def group(self, row, place):
        """The group of the place to which a row of the goal belongs, within the goal."""
        made = {}
        for value in self._entries[place][row[place]]:
            near = self.near(row, place, value)
            if near is not None:
                made[value] = self.steered(near, place + 1)
        return made
