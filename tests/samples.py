"""Kinds, wrong values and slow but plain reference functions that several tests use."""

from itertools import product

from keptbythree.kinds import Kind

BIT = Kind.cyclic(2)
LATCH = Kind.free(2, [0, 1])
ONE = Kind.cyclic(1)
HUGE = 10 ** 40 - 1


def nested(depth, thing):
    """The thing inside lists and tuples by turns."""
    for level in range(depth):
        thing = [thing] if level % 2 else (thing,)
    return thing


def any_values():
    """Values of every sort that may be passed where an error is described for a wrong argument."""
    return [
        None, True, False, 0, 1, 2, 3, 4, 5, -1, -2, HUGE, -HUGE, "", "0", "01", "x", "a" * 4000, "a\n\tb~",
        [], (), [0], (0,), [0, 0], (0, 0), (True,), (False, 0), (0, True), (None,), ("0",), ("0", "1"),
        ((),), ([],), [[]], (0, (0,)), ((0,), (0,)), ([0], 0), (HUGE,), (-1,), (0, -1),
        [(0, 0), (0, 0)], tuple(range(50)), list(range(2000)), nested(8, 0), nested(9, []), (nested(7, [1]), 0),
    ]


def numbers(seed):
    """An endless run of numbers below 2 ** 31 that is the same each time."""
    while True:
        seed = (seed * 1103515245 + 12345) & 0x7fffffff
        yield seed >> 8


def odd_kind(size, seed):
    """A kind whose free entries follow no pattern; it comes from no group."""
    source = numbers(seed)
    return Kind.free(size, [next(source) % size for _ in range(size * (size - 1) * (size - 1))])


def plain_combination(kinds, x, y, z):
    return tuple(kinds[i].table[x[i]][y[i]][z[i]] for i in range(len(kinds)))


def plain_missing(kinds, rows):
    for x, y, z in product(sorted(set(rows)), repeat=3):
        if plain_combination(kinds, x, y, z) not in rows:
            return (x, y, z)
    return None


def plain_closure(kinds, rows):
    """Adds the combinations of all triples until none is new."""
    known = set(rows)
    while True:
        made = {plain_combination(kinds, x, y, z) for x, y, z in product(sorted(known), repeat=3)}
        if made <= known:
            return sorted(known)
        known |= made


def all_rows(kinds):
    return list(product(*[range(kind.size) for kind in kinds]))
