"""Marks: the values of a row at one to three places, as one integer, and sets of marks, as the bits of an integer."""

# The values stand behind each other in a mark, each with so many bits.
BITS = 2
# The sets of all marks with the value 0 at the first, the second and the third place.
_PLANES = (0x1111111111111111, 0x000F000F000F000F, 0x000000000000FFFF)


def mark_of(values):
    """The mark of these values."""
    mark = 0
    for turn, value in enumerate(values):
        mark |= value << BITS * turn
    return mark


def marks_of(rows):
    """The set of the marks of these rows."""
    marks = 0
    for values in rows:
        marks |= 1 << mark_of(values)
    return marks


def origins(marks, turn, column):
    """The marks that are in the set once their value at one of the places is replaced by the column's item for it."""
    step = 1 << BITS * turn
    plane = _PLANES[turn]
    made = 0
    for value, image in enumerate(column):
        made |= (marks >> image * step & plane) << value * step
    return made
