"""Promises [3] and [7] to [10]: small sets against a list of all their rows."""

import unittest
from itertools import permutations

from keptbythree.orders import reordered
from keptbythree.restrict import equated, fixed, restricted
from keptbythree.sets import ClosedSet
from samples import all_rows, plain_certificate, plain_classes, plain_walk, small_sets, taken

SETS = [(kinds, rows, ClosedSet.of_rows(kinds, rows)) for kinds, rows in small_sets()]


class Listed(unittest.TestCase):
    def test_there_are_sets_of_all_sorts(self):
        self.assertGreater(len(SETS), 250)
        self.assertTrue({0, 1, 2, 3, 4, 6, 8, 9, 12, 16} <= {len(rows) for _, rows, _ in SETS})

    def test_certificates_and_classes(self):
        for kinds, rows, closed in SETS:
            self.assertEqual(closed.certificate(), plain_certificate(rows, len(kinds)))
            self.assertEqual([closed.classes(place) for place in range(len(kinds))],
                             [plain_classes(rows, place) for place in range(len(kinds))])
            self.assertIs(closed.is_empty, not rows)

    def test_membership(self):
        for kinds, rows, closed in SETS:
            self.assertEqual([row for row in all_rows(kinds) if closed.has(row)], rows)

    def test_walks(self):
        for kinds, rows, closed in SETS:
            if rows:
                for row in all_rows(kinds):
                    self.assertEqual(closed.walk(row), plain_walk(kinds, rows, row))

    def test_order(self):
        for kinds, rows, closed in SETS:
            self.assertEqual([closed.least(), closed.greatest()], [rows[0], rows[-1]] if rows else [None, None])
            for row in all_rows(kinds):
                self.assertEqual(closed.after(row), min([other for other in rows if other > row], default=None))
                self.assertEqual(closed.before(row), max([other for other in rows if other < row], default=None))

    def test_listings(self):
        for kinds, rows, closed in SETS:
            self.assertEqual(list(closed.rows()), rows)
            for count in range(len(rows) + 3):
                self.assertEqual(closed.first(count), rows[:count])
            for start in all_rows(kinds):
                self.assertEqual(list(closed.rows(start)), [row for row in rows if row >= start])

    def test_prefixes(self):
        for kinds, rows, closed in SETS:
            for length in range(len(kinds)):
                for prefix in all_rows(kinds[:length]):
                    values = sorted({row[length] for row in rows if row[:length] == prefix})
                    self.assertEqual(closed.next_values(*prefix), values)


class Derived(unittest.TestCase):
    def check(self, closed, kinds, rows):
        """The set is the one of these rows, in all that shows how it is kept."""
        self.assertEqual(closed.kinds, tuple(kinds))
        self.assertEqual(closed.certificate(), plain_certificate(rows, len(kinds)))
        self.assertEqual(closed.first(len(rows) + 1), rows)
        self.assertEqual(closed, ClosedSet.of_rows(kinds, rows), "equal sets made in different ways")

    def test_orders(self):
        for kinds, rows, closed in SETS:
            for order in permutations(range(len(kinds))):
                self.check(reordered(closed, order), [kinds[place] for place in order], taken(rows, order))

    def test_fixed(self):
        for kinds, rows, closed in SETS:
            for place, kind in enumerate(kinds):
                for value in range(kind.size):
                    self.check(fixed(closed, place, value), kinds, [row for row in rows if row[place] == value])

    def test_equated(self):
        for kinds, rows, closed in SETS:
            for place, kind in enumerate(kinds):
                for other in range(len(kinds)):
                    if kind == kinds[other]:
                        kept = [row for row in rows if row[place] == row[other]]
                        self.check(equated(closed, place, other), kinds, kept)

    def test_restricted(self):
        for kinds, rows, closed in SETS:
            for places, allowed in self.rules(kinds):
                kept = [row for row in rows if tuple(row[place] for place in places) in allowed]
                self.check(restricted(closed, places, allowed), kinds, kept)

    def rules(self, kinds):
        """Pairs (places, rows) that fit the kinds, also with one place twice or three times."""
        for other_kinds, rows, _ in SETS[::3]:
            if 1 <= len(other_kinds) <= 3:
                fitting = [[place for place, kind in enumerate(kinds) if kind == other] for other in other_kinds]
                if all(fitting):
                    yield [places[0] for places in fitting], rows[::-1]
                    yield tuple(places[-1] for places in fitting), rows
                    yield [places[at % len(places)] for at, places in enumerate(fitting)], rows + rows

    def test_one_after_the_other(self):
        for kinds, rows, closed in SETS:
            if len(kinds) >= 2:
                once = fixed(reordered(closed, range_back(kinds)), 0, 0)
                kept = [row[::-1] for row in rows if row[-1] == 0]
                self.check(once, kinds[::-1], sorted(kept))
                twice = reordered(once, range_back(kinds))
                self.check(twice, kinds, sorted(row[::-1] for row in kept))
                self.assertEqual(twice, fixed(closed, len(kinds) - 1, 0))


def range_back(kinds):
    return list(range(len(kinds)))[::-1]


if __name__ == "__main__":
    unittest.main()
