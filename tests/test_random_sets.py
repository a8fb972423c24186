"""Promises [1], [3] and [9]: random sets of twelve places with two to seven rules, made in different ways."""

import unittest

from keptbythree.orders import reordered
from keptbythree.restrict import equated, fixed, restricted
from keptbythree.sets import ClosedSet
from samples import (BIT, FOUR, LATCH, NIM, ONE, THREE, all_rows, allowed_by, calls_of, listed_certificate, numbers,
                     odd_kind, random_rules, ruled, shuffled, taken)

ODD = odd_kind(4, 1)
POOLS = [[FOUR], [ODD], [NIM, FOUR], [BIT, THREE], [LATCH, odd_kind(3, 6), FOUR], [NIM, BIT, THREE, odd_kind(4, 9)],
         [odd_kind(2, 4), ODD, ONE, BIT], [THREE, odd_kind(3, 2)]]
# Kinds with few rows in all, so that these can be listed.
SHORT = [[BIT] * 12, [LATCH] * 12, [ONE, THREE] * 6, [BIT, ONE, odd_kind(3, 6), LATCH] * 3,
         [FOUR, ONE, ONE, NIM, ODD, ONE, ONE, ODD, FOUR, ONE, ONE, NIM], [odd_kind(3, 2), ONE, ONE, BIT] * 3,
         [odd_kind(2, 4), BIT] * 6]


def same_kinds(kinds, place):
    """The places of the same kind."""
    return [other for other in range(len(kinds)) if kinds[other] == kinds[place]]


class Listed(unittest.TestCase):
    """Sets against a list of their rows."""

    def sets(self):
        for seed in range(42):
            kinds = SHORT[seed % len(SHORT)]
            rules = random_rules(kinds, 2 + seed % 6, seed)
            rows = [row for row in all_rows(kinds) if allowed_by(rules, row)]
            yield seed, kinds, rows, ruled(ClosedSet.full(*kinds), rules)

    def check(self, closed, rows):
        self.assertEqual(closed.certificate(), listed_certificate(rows, 12))

    def test_restricted(self):
        for seed, kinds, rows, closed in self.sets():
            self.check(closed, rows)
            for places, allowed in random_rules(kinds, 3, seed + 100):
                kept = [row for row in rows if tuple(row[place] for place in places) in allowed]
                self.check(restricted(closed, places, allowed), kept)
            self.check(restricted(closed, [0, 1, 2], [rows[-1][:3]]), [row for row in rows if row[:3] == rows[-1][:3]])

    def test_fixed(self):
        for _, kinds, rows, closed in self.sets():
            for place, kind in enumerate(kinds):
                for value in range(kind.size):
                    self.check(fixed(closed, place, value), [row for row in rows if row[place] == value])

    def test_equated(self):
        for seed, kinds, rows, closed in self.sets():
            source = numbers(seed)
            for place in range(12):
                others = same_kinds(kinds, place)
                other = others[next(source) % len(others)]
                self.check(equated(closed, place, other), [row for row in rows if row[place] == row[other]])

    def test_reordered(self):
        for seed, _, rows, closed in self.sets():
            for order in (list(range(12))[::-1], shuffled(12, seed), shuffled(12, seed + 100)):
                self.check(reordered(closed, order), taken(rows, order))


class Large(unittest.TestCase):
    """Sets that are too large for a list, made in different ways."""

    def sets(self):
        for seed in range(48):
            source = numbers(seed)
            pool = POOLS[seed % len(POOLS)]
            kinds = [pool[next(source) % len(pool)] for _ in range(12)]
            rules = random_rules(kinds, 2 + seed % 6, seed)
            yield seed, kinds, rules, ruled(ClosedSet.full(*kinds), rules)

    def same(self, one, other):
        self.assertEqual(one.certificate(), other.certificate())
        self.assertTrue(one == other)

    def test_order_and_repetition_of_rules(self):
        for seed, kinds, rules, closed in self.sets():
            full = ClosedSet.full(*kinds)
            self.same(ruled(full, [rules[at] for at in shuffled(len(rules), seed)]), closed)
            self.same(ruled(full, rules[::-1] + rules), closed)
            self.same(ruled(closed, rules[:2]), closed)

    def test_rows_of_the_certificate(self):
        for _, _, rules, closed in self.sets():
            least = closed.least()
            for place, entry in enumerate(closed.certificate()):
                for group in entry:
                    for value, row in group:
                        self.assertTrue(allowed_by(rules, row))
                        self.assertTrue(closed.has(row))
                        self.assertEqual((row[place], row[:place]), (value, group[0][1][:place]))
                        # A row that is least from the place on is followed back to itself.
                        self.assertEqual(row, next(closed.rows(row[:place + 1] + (0,) * (11 - place))))
                    if least[place] == group[0][0]:
                        self.assertEqual(group[0][1], least)

    def test_fixed_and_equated_are_restrictions(self):
        for seed, kinds, rules, closed in self.sets():
            source = numbers(seed)
            for place in range(0, 12, 3):
                value = next(source) % kinds[place].size
                once = fixed(closed, place, value)
                self.same(once, ruled(ClosedSet.full(*kinds), [([place], [(value,)]), *rules]))
                self.assertEqual(once.is_empty, value not in [b for group in closed.classes(place) for b in group])
                others = same_kinds(kinds, place)
                other = others[next(source) % len(others)]
                pairs = [(b, b) for b in range(kinds[place].size)]
                self.same(equated(closed, place, other), ruled(ClosedSet.full(*kinds), [([other, place], pairs), *rules]))
                self.same(fixed(equated(closed, place, other), other, value), equated(once, place, other))

    def test_reordered(self):
        for seed, kinds, rules, closed in self.sets():
            for order in (list(range(12))[::-1], shuffled(12, seed)):
                back = [order.index(place) for place in range(12)]
                moved = [([back[place] for place in places], rows) for places, rows in rules]
                result = reordered(closed, order)
                self.same(result, ruled(ClosedSet.full(*[kinds[place] for place in order]), moved))
                self.same(reordered(result, back), closed)
                half = reordered(ruled(ClosedSet.full(*kinds), rules[:1]), order)
                self.same(ruled(half, moved[1:]), result)
                value = closed.greatest()[order[3]]
                self.same(fixed(result, 3, value), reordered(fixed(closed, order[3], value), order))

    def test_which_pairs_of_values_occur(self):
        for seed, kinds, _, closed in list(self.sets())[::4]:
            place, other = shuffled(12, seed)[:2]
            front = reordered(closed, [place, other] + [at for at in range(12) if at not in (place, other)])
            for value in range(kinds[place].size):
                once = fixed(closed, place, value)
                found = [b for b in range(kinds[other].size) if not fixed(once, other, b).is_empty]
                self.assertEqual(found, front.next_values(value))

    def test_sets_do_not_change(self):
        for seed, kinds, _, closed in list(self.sets())[::6]:
            before = closed.certificate()
            for _ in range(2):
                results = [fixed(closed, 5, 0), equated(closed, 3, same_kinds(kinds, 3)[-1]),
                           reordered(closed, shuffled(12, seed)), restricted(closed, [1, 2], [(0, 0)])]
                self.assertEqual(closed.certificate(), before)
            self.assertEqual(results, [fixed(closed, 5, 0), equated(closed, 3, same_kinds(kinds, 3)[-1]),
                                       reordered(closed, shuffled(12, seed)), restricted(closed, [1, 2], [(0, 0)])])


class Effort(unittest.TestCase):
    """Counts of calls in place of a clock: they are the same on every machine."""

    def setUp(self):
        rows = [row for row in all_rows([FOUR] * 3) if (row[0] + row[1] - row[2]) % 4 == 0]
        closed = restricted(ClosedSet.full(*[FOUR] * 12), (0, 2, 4), rows)
        self.closed = equated(equated(closed, 1, 3), 6, 8)

    def light(self, most, function):
        _, many = calls_of(function)
        self.assertLess(many, most)

    def test_few_calls(self):
        closed = self.closed
        for i in range(24):
            places = (i % 12, (i + 1) % 12, (i + 5) % 12)
            self.light(1500, lambda: restricted(closed, places, [(0, 0, 0)]))
            self.light(1500, lambda: equated(closed, i % 12, (i * 5 + 3) % 12))
            self.light(1500, lambda: fixed(closed, i % 12, 0))
        self.light(3000, lambda: reordered(closed, list(range(12))[::-1]))

    def test_closed_lists(self):
        self.light(20000, lambda: restricted(ClosedSet.full(*[FOUR] * 12), (1, 5, 9), all_rows([FOUR] * 3)))


if __name__ == "__main__":
    unittest.main()
