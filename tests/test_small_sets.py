"""Promises [3] and [7] to [10]: small sets against a list of all their rows."""

import unittest
from itertools import combinations, permutations

from keptbythree.compare import difference, includes
from keptbythree.derivations import derivation, derives
from keptbythree.joins import common, hidden, joined
from keptbythree.orders import reordered
from keptbythree.restrict import equated, fixed, restricted
from keptbythree.sets import ClosedSet
from samples import (all_rows, certificate_rows, numbers, plain_certificate, plain_classes, plain_derives, plain_joined,
                     plain_walk, small_sets, taken)

SETS = [(kinds, rows, ClosedSet.of_rows(kinds, rows)) for kinds, rows in small_sets()]


class Listed(unittest.TestCase):
    def test_there_are_sets_of_all_sorts(self):
        self.assertGreater(len(SETS), 250)
        self.assertTrue({0, 1, 2, 3, 4, 6, 8, 9, 12, 16} <= {len(rows) for _, rows, _ in SETS})

    def test_certificates_and_classes(self):
        for kinds, rows, closed in SETS:
            self.assertEqual(closed.certificate(), plain_certificate(rows, len(kinds)))
            self.assertEqual([closed.classes(place) for place in range(len(kinds))],
                             [plain_classes(rows, place) for place in range(len(kinds))])
            self.assertIs(closed.is_empty, not rows)

    def test_membership(self):
        for kinds, rows, closed in SETS:
            self.assertEqual([row for row in all_rows(kinds) if closed.has(row)], rows)

    def test_walks(self):
        for kinds, rows, closed in SETS:
            if rows:
                for row in all_rows(kinds):
                    self.assertEqual(closed.walk(row), plain_walk(kinds, rows, row))

    def test_order(self):
        for kinds, rows, closed in SETS:
            self.assertEqual([closed.least(), closed.greatest()], [rows[0], rows[-1]] if rows else [None, None])
            for row in all_rows(kinds):
                self.assertEqual(closed.after(row), min([other for other in rows if other > row], default=None))
                self.assertEqual(closed.before(row), max([other for other in rows if other < row], default=None))

    def test_listings(self):
        for kinds, rows, closed in SETS:
            self.assertEqual(list(closed.rows()), rows)
            for count in range(len(rows) + 3):
                self.assertEqual(closed.first(count), rows[:count])
            for start in all_rows(kinds):
                self.assertEqual(list(closed.rows(start)), [row for row in rows if row >= start])

    def test_prefixes(self):
        for kinds, rows, closed in SETS:
            for length in range(len(kinds)):
                for prefix in all_rows(kinds[:length]):
                    values = sorted({row[length] for row in rows if row[:length] == prefix})
                    self.assertEqual(closed.next_values(*prefix), values)


class Derived(unittest.TestCase):
    def check(self, closed, kinds, rows):
        """The set is the one of these rows, in all that shows how it is kept."""
        self.assertEqual(closed.kinds, tuple(kinds))
        self.assertEqual(closed.certificate(), plain_certificate(rows, len(kinds)))
        self.assertEqual(closed.first(len(rows) + 1), rows)
        self.assertEqual(closed, ClosedSet.of_rows(kinds, rows), "equal sets made in different ways")

    def test_orders(self):
        for kinds, rows, closed in SETS:
            for order in permutations(range(len(kinds))):
                self.check(reordered(closed, order), [kinds[place] for place in order], taken(rows, order))

    def test_fixed(self):
        for kinds, rows, closed in SETS:
            for place, kind in enumerate(kinds):
                for value in range(kind.size):
                    self.check(fixed(closed, place, value), kinds, [row for row in rows if row[place] == value])

    def test_equated(self):
        for kinds, rows, closed in SETS:
            for place, kind in enumerate(kinds):
                for other in range(len(kinds)):
                    if kind == kinds[other]:
                        kept = [row for row in rows if row[place] == row[other]]
                        self.check(equated(closed, place, other), kinds, kept)

    def test_restricted(self):
        for kinds, rows, closed in SETS:
            for places, allowed in self.rules(kinds):
                kept = [row for row in rows if tuple(row[place] for place in places) in allowed]
                self.check(restricted(closed, places, allowed), kinds, kept)

    def rules(self, kinds):
        """Pairs (places, rows) that fit the kinds, also with one place twice or three times."""
        for other_kinds, rows, _ in SETS[::3]:
            if 1 <= len(other_kinds) <= 3:
                fitting = [[place for place, kind in enumerate(kinds) if kind == other] for other in other_kinds]
                if all(fitting):
                    yield [places[0] for places in fitting], rows[::-1]
                    yield tuple(places[-1] for places in fitting), rows
                    yield [places[at % len(places)] for at, places in enumerate(fitting)], rows + rows

    def test_one_after_the_other(self):
        for kinds, rows, closed in SETS:
            if len(kinds) >= 2:
                once = fixed(reordered(closed, range_back(kinds)), 0, 0)
                kept = [row[::-1] for row in rows if row[-1] == 0]
                self.check(once, kinds[::-1], sorted(kept))
                twice = reordered(once, range_back(kinds))
                self.check(twice, kinds, sorted(row[::-1] for row in kept))
                self.assertEqual(twice, fixed(closed, len(kinds) - 1, 0))


class PutTogether(unittest.TestCase):
    def check(self, closed, kinds, rows):
        self.assertEqual(closed.kinds, tuple(kinds))
        self.assertEqual(closed.certificate(), plain_certificate(rows, len(kinds)))
        self.assertEqual(closed.first(len(rows) + 1), rows)

    def pairs_of_sets(self):
        """Pairs of small sets, of one width or of several ones; every set stands in one at least."""
        for at, one in enumerate(SETS):
            for step in (0, 1, 7, 31, 90):
                other = SETS[(at + step) % len(SETS)]
                if len(one[1]) * len(other[1]) <= 300:
                    yield one, other

    def test_hidden(self):
        for kinds, rows, closed in SETS:
            for many in range(len(kinds) + 1):
                for places in combinations(range(len(kinds)), many):
                    kept = [place for place in range(len(kinds)) if place not in places]
                    expected = taken(rows, kept)
                    self.check(hidden(closed, *places), [kinds[place] for place in kept], expected)
                    self.check(hidden(closed, *places[::-1], *places), [kinds[place] for place in kept], expected)

    def test_joined(self):
        source = numbers(3)
        for (kinds, rows, one), (other_kinds, other_rows, other) in self.pairs_of_sets():
            fitting = [(place, second) for place, kind in enumerate(kinds) for second, other_kind in
                       enumerate(other_kinds) if kind == other_kind]
            for many in range(4):
                if fitting or not many:
                    pairs = [fitting[next(source) % len(fitting)] for _ in range(many)]
                    left = [second for _, second in pairs]
                    kept = [kind for second, kind in enumerate(other_kinds) if second not in left]
                    if len(kinds) + len(kept) <= 7:
                        self.check(joined(one, other, *pairs), [*kinds, *kept], plain_joined(rows, other_rows, pairs))

    def test_common_and_differences(self):
        for kinds, rows, one in SETS:
            for _, other_rows, other in [found for found in SETS if found[0] == kinds][:20]:
                both = [row for row in rows if row in other_rows]
                self.check(common(one, other), kinds, both)
                ordered = certificate_rows(one) if rows and kinds else rows
                expected = [row for row in ordered if row not in other_rows]
                self.assertEqual(difference(one, other), expected[0] if expected else None)
                self.assertIs(includes(other, one), both == rows)
                self.assertIs(difference(one, other) is None, both == rows)
                self.assertIs(one == other, both == rows == other_rows)

    def test_derivations(self):
        for kinds, rows, closed in SETS:
            for row in rows:
                found, steps = derivation(closed, row)
                self.assertTrue(plain_derives(kinds, found, steps, row))
                self.assertIs(derives(kinds, found, steps, row), True)
                self.assertLessEqual(len(steps), len(kinds))
                self.assertTrue(set(found) <= set(certificate_rows(closed) if kinds else rows))


def range_back(kinds):
    return list(range(len(kinds)))[::-1]


if __name__ == "__main__":
    unittest.main()
