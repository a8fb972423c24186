"""Entries, as which a set that is not empty is kept, and what follows from them without a list of its rows.

There is one entry for each place: a dict that gives for each value that occurs there its group. A group is a class
of the place, a dict of rows by their values there, in ascending order. Its rows agree before the place. The entries
of a ClosedSet have the rows of its certificate. While a set is being made, other rows of the set stand for them.

Tables are the tables of the kinds.
"""


def combined(tables, x, y, z):
    """The combination of three rows for the kinds with these tables."""
    return tuple([table[first][second][third] for table, first, second, third in zip(tables, x, y, z)])


def groups(entry):
    """The groups of a place, in ascending order of their least values."""
    return [entry[value] for value in sorted(entry) if value == min(entry[value])]


def entry_of(made):
    """The entry with these groups."""
    return {value: group for group in made for value in group}


def ascending(group):
    """The same group with its values in ascending order."""
    return {value: group[value] for value in sorted(group)}


def entries_of_all(tables):
    """The entries of the set of all rows."""
    made = []
    for place in range(len(tables)):
        before = (0,) * place
        behind = (0,) * (len(tables) - place - 1)
        made.append(entry_of([{value: before + (value,) + behind for value in range(len(tables[place]))}]))
    return made


def entries_of_rows(rows):
    """The entries of the closed set of these rows, which are distinct and ascending."""
    made = []
    for place in range(len(rows[0])):
        entry = {}
        for row in rows:
            # By [8] the first row with a value of a class has the least value of the class.
            if row[place] not in entry:
                entry.update(entry_of([_group_of_rows(rows, row, place)]))
        made.append(entry)
    return made


def _group_of_rows(rows, row, place):
    """The group of the rows that agree with the row before the place."""
    group = {}
    for other in rows:
        if other[:place] == row[:place] and other[place] not in group:
            group[other[place]] = other
    return group


def base(entries):
    """A row of the set; the least one if the entries have the rows of the certificate."""
    if not entries:
        return ()
    value = min(entries[0])
    return entries[0][value][value]


def moved(tables, entries, row, place, value):
    """A row that agrees with the row before the place and has another value of its class there."""
    if value == row[place]:
        return row
    group = entries[place][row[place]]
    return combined(tables, row, group[row[place]], group[value])


def lowest(tables, entries, row, place):
    """The least row of the set that agrees with the row before the place."""
    for at in range(place, len(entries)):
        row = moved(tables, entries, row, at, min(entries[at][row[at]]))
    return row


def highest(tables, entries, row, place):
    """The greatest row of the set that agrees with the row before the place."""
    for at in range(place, len(entries)):
        row = moved(tables, entries, row, at, max(entries[at][row[at]]))
    return row


def walked(tables, entries, row):
    """The walk to a row, or to the beginning of one: its steps, the place where it ends or None, the row there."""
    near = base(entries)
    steps = []
    for place in range(len(row)):
        value = row[place]
        if value not in entries[place][near[place]]:
            return steps, place, near
        if value != near[place]:
            near = moved(tables, entries, near, place, value)
            steps.append((place, value))
    return steps, None, near


def above(tables, entries, row, near, place):
    """The least row above the row, or None, where near, a row of the set, agrees with it before the place."""
    for at in range(min(place, len(entries) - 1), -1, -1):
        greater = [value for value in entries[at][near[at]] if value > row[at]]
        if greater:
            return lowest(tables, entries, moved(tables, entries, near, at, min(greater)), at + 1)
    return None


def below(tables, entries, row, near, place):
    """The greatest row below the row, or None, where near, a row of the set, agrees with it before the place."""
    for at in range(min(place, len(entries) - 1), -1, -1):
        less = [value for value in entries[at][near[at]] if value < row[at]]
        if less:
            return highest(tables, entries, moved(tables, entries, near, at, max(less)), at + 1)
    return None


def certificate_of(entries):
    """The certificate in the form of [9], in new lists."""
    return [[[(value, group[value]) for value in group] for group in groups(entry)] for entry in entries]
