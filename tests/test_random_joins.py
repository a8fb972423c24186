"""Promises [1] and [3]: joins, comparisons and derivations of random sets of twelve places."""

import unittest

from keptbythree.compare import difference, includes
from keptbythree.derivations import derivation, derives
from keptbythree.joins import common, hidden, joined
from keptbythree.orders import reordered
from keptbythree.restrict import equated, fixed, restricted
from keptbythree.sets import ClosedSet
from samples import (BIT, FOUR, LATCH, NIM, ONE, THREE, allowed_by, calls_of, certificate_rows, numbers, odd_kind,
                     random_rules, ruled, shuffled)

ODD = odd_kind(4, 1)
POOLS = [[FOUR], [ODD], [NIM, FOUR], [BIT, THREE], [LATCH, odd_kind(3, 6)], [NIM, ODD, ONE, BIT]]
# More calls than any operation needs for twelve places; a listing of the rows would take more than that.
MOST_CALLS = 60000


def kinds_of(seed, many=12):
    source = numbers(seed)
    pool = POOLS[seed % len(POOLS)]
    return [pool[next(source) % len(pool)] for _ in range(many)]


def sets(many):
    """Seeds, kinds, rules and sets of twelve places."""
    for seed in range(many):
        kinds = kinds_of(seed)
        rules = random_rules(kinds, 2 + seed % 6, seed)
        yield seed, kinds, rules, ruled(ClosedSet.full(*kinds), rules)


class Same(unittest.TestCase):
    def same(self, one, other):
        self.assertEqual(one.kinds, other.kinds)
        self.assertEqual(one.certificate(), other.certificate())
        self.assertTrue(one == other)

    def light(self, function):
        result, many = calls_of(function)
        self.assertLess(many, MOST_CALLS)
        return result


class Joins(Same):
    def test_a_join_is_made_of_all_values_of_both(self):
        for seed in range(36):
            source = numbers(seed + 500)
            kinds, others = kinds_of(seed, 5 + seed % 3), kinds_of(seed + len(POOLS), 7 - seed % 3)
            width = len(kinds)
            rules, other_rules = random_rules(kinds, 3, seed), random_rules(others, 3, seed + 1)
            one, other = ruled(ClosedSet.full(*kinds), rules), ruled(ClosedSet.full(*others), other_rules)
            both = self.light(lambda: joined(one, other))
            moved = [([width + place for place in places], rows) for places, rows in other_rules]
            self.same(both, ruled(ClosedSet.full(*kinds, *others), rules + moved))
            fitting = [(place, second) for place in range(width) for second in range(len(others))
                       if kinds[place] == others[second]]
            pairs = [fitting[next(source) % len(fitting)] for _ in range(1 + seed % 4)] if fitting else []
            for place, second in pairs:
                both = equated(both, place, width + second)
            result = self.light(lambda: joined(one, other, *pairs))
            self.same(result, hidden(both, *[width + second for _, second in pairs]))
            self.same(joined(one, other, *pairs[::-1], *pairs), result)

    def test_all_places_of_the_other_set_in_pairs(self):
        for seed, kinds, rules, closed in sets(18):
            order = shuffled(12, seed)
            other_rules = random_rules(kinds, 3, seed)
            other = reordered(ruled(ClosedSet.full(*kinds), other_rules), order)
            pairs = [(place, order.index(place)) for place in shuffled(12, seed + 1)]
            self.same(self.light(lambda: joined(closed, other, *pairs)), ruled(closed, other_rules))

    def test_common(self):
        for seed, kinds, rules, closed in sets(36):
            other_rules = random_rules(kinds, 2 + seed % 4, seed) + random_rules(kinds, 1, seed + 900)
            other = ruled(ClosedSet.full(*kinds), other_rules)
            result = self.light(lambda: common(closed, other))
            self.same(result, ruled(ClosedSet.full(*kinds), rules + other_rules))
            self.same(common(other, closed), result)
            self.same(common(result, closed), result)
            if not result.is_empty:
                for row in certificate_rows(result):
                    self.assertTrue(allowed_by(rules + other_rules, row))
            self.assertTrue(includes(closed, result) and includes(other, result))
            self.assertEqual(difference(result, closed), None)

    def test_nothing_in_common(self):
        for _, kinds, _, closed in sets(12):
            place = [at for at in range(12) if closed.least()[at] != closed.greatest()[at]][0]
            one, other = fixed(closed, place, closed.least()[place]), fixed(closed, place, closed.greatest()[place])
            self.same(common(one, other), ClosedSet.empty(*kinds))


class Hidden(Same):
    def test_at_once_and_one_after_another(self):
        for seed, _, _, closed in sets(24):
            places = shuffled(12, seed)[:1 + seed % 9]
            result = self.light(lambda: hidden(closed, *places))
            self.same(hidden(closed, *sorted(places)[::-1], places[0]), result)
            once = closed
            for place in sorted(places)[::-1]:
                once = hidden(once, place)
            self.same(once, result)
            order = shuffled(12, seed + 1)
            other = hidden(reordered(closed, order), *[order.index(place) for place in places])
            kept = [place for place in order if place not in places]
            self.same(other, reordered(result, [sorted(kept).index(place) for place in kept]))

    def test_rows_without_places(self):
        for seed, _, _, closed in sets(12):
            places = shuffled(12, seed)[:3]
            result = hidden(closed, *places)
            kept = [place for place in range(12) if place not in places]
            for row in certificate_rows(closed):
                self.assertTrue(result.has(tuple(row[place] for place in kept)))
            for row in certificate_rows(result):
                found = closed
                for place, value in zip(kept, row):
                    found = fixed(found, place, value)
                self.assertFalse(found.is_empty)

    def test_hidden_places_leave_the_rules_for_others(self):
        for seed, kinds, rules, closed in sets(12):
            places = [place for place in range(12) if all(place not in used for used, _ in rules)]
            kept = [place for place in range(12) if place not in places]
            moved = [([kept.index(place) for place in used], rows) for used, rows in rules]
            self.same(hidden(closed, *places), ruled(ClosedSet.full(*[kinds[place] for place in kept]), moved))


class Comparisons(Same):
    def test_equal_exactly_if_neither_has_another_row(self):
        for seed, kinds, rules, closed in sets(24):
            full = ClosedSet.full(*kinds)
            others = [ruled(full, rules[::-1]), ruled(full, rules[1:]), ruled(full, random_rules(kinds, 2, seed)),
                      ruled(closed, random_rules(kinds, 1, seed)), fixed(closed, 3, closed.greatest()[3]), full]
            for other in others:
                lacks, more = self.light(lambda: difference(other, closed)), difference(closed, other)
                self.assertIs(lacks is None and more is None, closed == other)
                self.assertEqual([includes(closed, other), includes(other, closed)], [lacks is None, more is None])
                for row, one, two in ((lacks, other, closed), (more, closed, other)):
                    if row is not None:
                        self.assertEqual(row, [used for used in certificate_rows(one) if not two.has(used)][0])


class Derivations(Same):
    def test_each_row_has_a_derivation(self):
        for seed, kinds, rules, closed in sets(24):
            source = numbers(seed)
            found = certificate_rows(closed)
            for _ in range(20):
                row = closed.after(tuple(next(source) % kind.size for kind in kinds)) or closed.greatest()
                rows, steps = self.light(lambda: derivation(closed, row))
                self.assertIs(derives(closed.kinds, rows, steps, row), True)
                self.assertLessEqual(len(steps), 12)
                self.assertTrue(all(used in found for used in rows))
                self.assertTrue(allowed_by(rules, row))


class WithoutListing(Same):
    def test_all_rows(self):
        full = ClosedSet.full(*[FOUR] * 12)
        self.same(self.light(lambda: common(full, full)), full)
        self.same(self.light(lambda: hidden(full, 3, 0)), ClosedSet.full(*[FOUR] * 10))
        self.same(self.light(lambda: joined(ClosedSet.full(*[ODD] * 6), ClosedSet.full(*[ODD] * 6))),
                  ClosedSet.full(*[ODD] * 12))
        self.assertIs(self.light(lambda: includes(full, restricted(full, [0, 1], [(0, 1)]))), True)
        self.assertEqual(self.light(lambda: difference(full, fixed(full, 11, 2))), (0,) * 12)
        self.assertEqual(len(self.light(lambda: derivation(full, (3,) * 12))[1]), 12)


if __name__ == "__main__":
    unittest.main()
