"""Kinds, wrong values and slow but plain reference functions that several tests use."""

import sys
from itertools import product

from keptbythree.kinds import Kind
from keptbythree.restrict import restricted
from keptbythree.rows import closure

BIT = Kind.cyclic(2)
LATCH = Kind.free(2, [0, 1])
ONE = Kind.cyclic(1)
THREE = Kind.cyclic(3)
FOUR = Kind.cyclic(4)
# The sum of two bits without carry: a group of size 4 that is not cyclic.
NIM = Kind(tuple(tuple(tuple(x ^ y ^ z for z in range(4)) for y in range(4)) for x in range(4)))
HUGE = 10 ** 40 - 1


def wrong_places(width):
    """Any values but the places."""
    right = [str(place) for place in range(width)]
    return [thing for thing in [*any_values(), width, -1, -width, HUGE] if repr(thing) not in right]


def nested(depth, thing):
    """The thing inside lists and tuples by turns."""
    for level in range(depth):
        thing = [thing] if level % 2 else (thing,)
    return thing


def any_values():
    """Values of every sort that may be passed where an error is described for a wrong argument."""
    return [
        None, True, False, 0, 1, 2, 3, 4, 5, -1, -2, HUGE, -HUGE, "", "0", "01", "x", "a" * 4000, "a\n\tb~",
        [], (), [0], (0,), [0, 0], (0, 0), (True,), (False, 0), (0, True), (None,), ("0",), ("0", "1"),
        ((),), ([],), [[]], (0, (0,)), ((0,), (0,)), ([0], 0), (HUGE,), (-1,), (0, -1),
        [(0, 0), (0, 0)], tuple(range(50)), list(range(2000)), nested(8, 0), nested(9, []), (nested(7, [1]), 0),
    ]


def numbers(seed):
    """An endless run of numbers below 2 ** 31 that is the same each time."""
    while True:
        seed = (seed * 1103515245 + 12345) & 0x7fffffff
        yield seed >> 8


def odd_kind(size, seed):
    """A kind whose free entries follow no pattern; it comes from no group."""
    source = numbers(seed)
    return Kind.free(size, [next(source) % size for _ in range(size * (size - 1) * (size - 1))])


def plain_combination(kinds, x, y, z):
    return tuple(kinds[i].table[x[i]][y[i]][z[i]] for i in range(len(kinds)))


def plain_missing(kinds, rows):
    for x, y, z in product(sorted(set(rows)), repeat=3):
        if plain_combination(kinds, x, y, z) not in rows:
            return (x, y, z)
    return None


def plain_closure(kinds, rows):
    """Adds the combinations of all triples until none is new."""
    known = set(rows)
    while True:
        made = {plain_combination(kinds, x, y, z) for x, y, z in product(sorted(known), repeat=3)}
        if made <= known:
            return sorted(known)
        known |= made


def all_rows(kinds):
    return list(product(*[range(kind.size) for kind in kinds]))


def plain_classes(rows, place):
    """The classes of a place as [7] says it, as ascending lists in the order of their least values."""
    near = {(t[place], u[place]) for t in rows for u in rows if t[:place] == u[:place]}
    values = sorted({row[place] for row in rows})
    classes = []
    for value in values:
        group = [other for other in values if (value, other) in near]
        if group not in classes:
            classes.append(group)
    return classes


def plain_certificate(rows, width):
    """The certificate of a closed list of rows as [9] says it."""
    if not rows:
        return None
    return [[plain_class(rows, place, values) for values in plain_classes(rows, place)] for place in range(width)]


def plain_class(rows, place, values):
    """One class of the certificate."""
    first = min(row for row in rows if row[place] == values[0])
    rest = [(value, min(row for row in rows if row[:place] == first[:place] and row[place] == value))
            for value in values[1:]]
    return [(values[0], first), *rest]


def plain_walk(kinds, rows, goal):
    """The walk to a row as [10] says it, with the certificate of the rows."""
    y = min(rows)
    steps = []
    for place, entry in enumerate(plain_certificate(rows, len(kinds))):
        if y[place] != goal[place]:
            for line in entry:
                if y[place] in dict(line):
                    group = dict(line)
            if goal[place] not in group:
                return steps, place, y
            y = plain_combination(kinds, y, group[y[place]], group[goal[place]])
            steps.append((place, goal[place]))
    return steps, None, y


def listed_certificate(rows, width):
    """The certificate of a closed list of ascending rows as [9] says it, for lists that are too long for the above."""
    return [listed_entry(rows, place) for place in range(width)] if rows else None


def listed_entry(rows, place):
    """One entry of the certificate."""
    first, after = {}, {}
    for row in rows:
        first.setdefault(row[place], row)
        after.setdefault(row[:place], {}).setdefault(row[place], row)
    # Two values are near if they follow one beginning; [8] says that the values of a class follow the same beginnings.
    groups = sorted({tuple(sorted(found)) for found in after.values()})
    assert sum(len(group) for group in groups) == len(first)
    return [[(value, after[first[group[0]][:place]][value]) for value in group] for group in groups]


def random_rules(kinds, many, seed):
    """Closed lists of rows for one to three places each. Some row satisfies all of them."""
    source = numbers(seed)
    base = [next(source) % kind.size for kind in kinds]
    rules = []
    while len(rules) < many:
        places = [next(source) % len(kinds) for _ in range(1 + next(source) % 3)]
        chosen = [kinds[place] for place in places]
        begin = [tuple(base[place] for place in places)]
        begin.extend([tuple(next(source) % kind.size for kind in chosen) for _ in range(next(source) % 3)])
        rules.append((places, closure(chosen, begin)))
    return rules


def ruled(closed, rules):
    """The rows of the set that satisfy the rules."""
    for places, rows in rules:
        closed = restricted(closed, places, rows)
    return closed


def allowed_by(rules, row):
    return all(tuple(row[place] for place in places) in rows for places, rows in rules)


def shuffled(many, seed):
    """The integers below a number in an order without a pattern."""
    source = numbers(seed)
    return sorted(range(many), key=lambda _: next(source))


def certificate_rows(closed):
    """The rows of a certificate, in the order in which it is written."""
    return [row for entry in closed.certificate() for group in entry for _, row in group]


def plain_derives(kinds, rows, steps, row):
    """What `derives` says, in the words of the document."""
    if type(rows) is not list or type(steps) is not list or rows == []:
        return False
    made = list(rows)
    for step in steps:
        if type(step) is not tuple or len(step) != 3 or any(type(index) is not int for index in step):
            return False
        if not all(0 <= index < len(made) for index in step) or not all(plain_row(kinds, one) for one in made):
            return False
        made.append(plain_combination(kinds, *[made[index] for index in step]))
    return all(plain_row(kinds, one) for one in [*made, row]) and made[-1] == row


def plain_row(kinds, thing):
    return (type(thing) is tuple and len(thing) == len(kinds)
            and all(type(value) is int and 0 <= value < kind.size for value, kind in zip(thing, kinds)))


def plain_joined(rows, others, pairs):
    """The rows of a join, ascending."""
    left = [place for _, place in pairs]
    return sorted({x + tuple(value for place, value in enumerate(y) if place not in left)
                   for x in rows for y in others if all(x[place] == y[other] for place, other in pairs)})


def taken(rows, order):
    """The rows with their places in another order, or some of their places, ascending."""
    return sorted({tuple(row[place] for place in order) for row in rows})


def small_sets():
    """Pairs (kinds, rows) of small closed sets of all sorts; the rows ascend."""
    latches = [Kind.free(2, entries) for entries in product((0, 1), repeat=2)]
    for kinds in product(latches, repeat=2):
        for chosen in product((False, True), repeat=4):
            rows = [row for row, is_chosen in zip(all_rows(kinds), chosen) if is_chosen]
            if plain_missing(kinds, rows) is None:
                yield list(kinds), rows
    source = numbers(11)
    for kinds in SMALL_KINDS:
        for many in range(5):
            given = [tuple(next(source) % kind.size for kind in kinds) for _ in range(many)]
            yield kinds, plain_closure(kinds, given)
    yield [BIT, BIT, NIM], [(0, 0, 0), (0, 1, 1), (1, 0, 2), (1, 1, 3)]
    yield [NIM, BIT, BIT], [(0, 0, 0), (1, 0, 1), (2, 1, 0), (3, 1, 1)]
    yield [BIT] * 4, [row for row in all_rows([BIT] * 4) if sum(row) % 2 == 1]


SMALL_KINDS = [
    [], [ONE], [ONE, ONE], [FOUR], [odd_kind(4, 2)], [odd_kind(3, 7)], [BIT, THREE], [odd_kind(3, 5), LATCH],
    [LATCH, ONE, BIT], [odd_kind(3, 8), odd_kind(3, 9)], [FOUR, odd_kind(3, 4)], [FOUR, FOUR], [NIM, NIM],
    [BIT, LATCH, THREE], [BIT, BIT, BIT], [LATCH, LATCH, LATCH], [THREE, THREE, THREE], [ONE, FOUR, BIT, ONE],
    [BIT, BIT, BIT, BIT], [LATCH, BIT, BIT, LATCH], [FOUR, BIT, FOUR], [odd_kind(2, 1), THREE, odd_kind(2, 1)],
]


def calls_of(function):
    """What the function returns, and how many calls of Python functions it takes."""
    counted = [0]

    def count(frame, event, argument):
        if event == "call":
            counted[0] += 1

    before = sys.getprofile()
    sys.setprofile(count)
    try:
        result = function()
    finally:
        sys.setprofile(before)
    return result, counted[0]
