"""Unions: how the values of a place come together when rows need to agree at fewer places before it.

Two values of a place are in one part from the place j on, where j is not behind it, if two rows that agree before j
have them. Where j is the place itself, the parts are the classes. As [8] says of classes, any row with one of the two
values agrees before j with a row that has the other one. Walks lead from a row to all those that agree with it before
j by moves at j and behind it. So the parts from j on are those from j + 1 on, joined by what the moves at j do with the
values; and it is enough to look at the moves between the least value of each group and the others.

Parts are kept by their values, as the bits of integers.
"""

from keptbythree.entries import groups


def unions_of(columns, entries):
    """For each place a list of pairs (j, the parts from j on), by descending j, one for each j at which they change."""
    unions = [[(place, _classes(entries[place]))] for place in range(len(entries))]
    # Where all values are in one class, nothing can change.
    split = [place for place in range(len(entries)) if len(groups(entries[place])) > 1]
    for place in range(len(entries) - 1, -1, -1):
        behind = [at for at in split if at > place]
        pairs = _pairs(entries[place]) if behind else []
        for at in behind:
            parts = unions[at][-1][1]
            moves = [(old[at], new[at]) for old, new in pairs if not parts[old[at]] >> new[at] & 1]
            if moves:
                unions[at].append((place, _joined(parts, columns[at], moves)))
    return unions


def _classes(entry):
    """The classes of an entry as parts."""
    return {value: sum([1 << other for other in entry[value]]) for value in entry}


def _pairs(entry):
    """The pairs of the first row of a group and another one."""
    return [(group[min(group)], group[value]) for group in groups(entry) for value in group if value != min(group)]


def _joined(parts, columns, moves):
    """The parts in which each value is together with those that moves between two values, there or back, make of it."""
    joined = parts
    for old, new in moves:
        joined = _joined_by(_joined_by(joined, columns[old][new]), columns[new][old])
    return joined


def _joined_by(parts, column):
    """The parts in which each value is together with the item of the column for it."""
    joined = {value: parts[value] for value in parts}
    for value in parts:
        whole = joined[value] | joined[column[value]]
        for other in parts:
            if whole >> other & 1:
                joined[other] = whole
    return joined
