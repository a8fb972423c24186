"""Frames that are put together from two."""

from keptbythree.entries import base, groups
from keptbythree.frames import Frame, cut
from keptbythree.narrow import narrowed


def linked(one, other, pairs):
    """The frame of the rows of one, followed by those of the other one with equal values at the places of each pair.

    The places of the other one that are in pairs are left out. The frame is None if it has no row.
    """
    width = len(one.tables)
    frame = _product(one, other)
    for place, second in pairs:
        frame = narrowed(frame, (place, width + second), [(value, value) for value in range(len(one.tables[place]))])
        if frame is None:
            return None
    # What is left out follows from what stands before it, so that rows that agree without it agree with it.
    paired = [width + second for _, second in pairs]
    kept = [place for place in range(len(frame.tables)) if place not in paired]
    return cut(frame.tables, frame.columns, frame.entries, kept)


def _product(one, other):
    """The frame of all rows of one followed by a row of the other one."""
    frame = Frame(one.tables + other.tables, one.columns + other.columns)
    head = base(one.entries)
    tail = base(other.entries)
    for place, entry in enumerate(one.entries):
        for group in groups(entry):
            frame.add(place, {value: group[value] + tail for value in group})
    for place, entry in enumerate(other.entries):
        for group in groups(entry):
            frame.add(len(head) + place, {value: head + group[value] for value in group})
    return frame
