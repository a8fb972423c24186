"""Promises [1] and [3]: sets with up to 4 ** 12 rows, which are never listed."""

import unittest
from itertools import islice, permutations

from keptbythree.orders import reordered
from keptbythree.restrict import equated, fixed, restricted
from keptbythree.rows import combine
from keptbythree.sets import ClosedSet
from samples import (BIT, FOUR, LATCH, NIM, ONE, THREE, all_rows, allowed_by, calls_of, numbers, odd_kind,
                     plain_closure, ruled)

ODD = odd_kind(4, 1)
# More calls than any operation needs for twelve places; a listing of the rows would take more than that.
MOST_CALLS = 60000
ALL = ClosedSet.full(*[FOUR] * 12)
SUM = [row for row in all_rows([FOUR] * 3) if sum(row) % 4 == 0]
EVEN = [row for row in all_rows([FOUR] * 3) if sum(row) % 2 == 0]
# Rules for twelve places of kind FOUR: places and the rows that their values may form.
RULES = [([0, 5, 9], SUM), ([11, 3, 0], SUM), ([2, 6, 7], EVEN), ([4, 8], [(0, 1), (1, 2), (2, 3), (3, 0)]),
         ([10, 1, 6], SUM), ([7], [(1,), (3,)]), ([2, 2], [(0, 0), (2, 2)])]
LEFT = 4 ** 12 // (4 * 4 * 2 * 4 * 4 * 2 * 2)


def number_of_rows(closed):
    """The number of the rows of a set in which all classes of a place have the same size."""
    number = 1
    for place in range(closed.width):
        sizes = {len(group) for group in closed.classes(place)}
        assert len(sizes) == 1
        number *= sizes.pop()
    return number


def some_rows(closed, many, seed):
    """Rows of the kinds of the set, some of them in the set, without a pattern."""
    source = numbers(seed)
    for _ in range(many):
        row = tuple(next(source) % kind.size for kind in closed.kinds)
        yield row
        found = closed.after(row)
        if found is not None:
            yield found
            place = next(source) % closed.width
            yield found[:place] + (next(source) % closed.kinds[place].size,) + found[place + 1:]


class WithoutListing(unittest.TestCase):
    def light(self, function):
        """What the function returns, provided that it takes few calls."""
        result, many = calls_of(function)
        self.assertLess(many, MOST_CALLS)
        return result

    def test_the_set_of_all_rows(self):
        closed = self.light(lambda: ClosedSet.full(*[FOUR] * 12))
        self.assertEqual(number_of_rows(closed), 4 ** 12)
        self.assertEqual(self.light(closed.least), (0,) * 12)
        self.assertEqual(self.light(closed.greatest), (3,) * 12)
        self.assertEqual(self.light(lambda: closed.after((1,) * 11 + (3,))), (1,) * 10 + (2, 0))
        self.assertEqual(self.light(lambda: closed.before((1,) * 11 + (0,))), (1,) * 10 + (0, 3))
        self.assertIs(self.light(lambda: closed.has((3, 1, 2) * 4)), True)
        self.assertEqual(self.light(lambda: closed.next_values(*(2,) * 11)), [0, 1, 2, 3])
        self.assertEqual(len(self.light(closed.certificate)), 12)
        self.assertIs(self.light(lambda: closed == ALL), True)

    def test_every_operation(self):
        closed = self.light(lambda: restricted(ALL, [0, 5, 9], SUM))
        self.assertEqual(number_of_rows(closed), 4 ** 11)
        self.assertEqual(number_of_rows(self.light(lambda: fixed(closed, 11, 2))), 4 ** 10)
        self.assertEqual(number_of_rows(self.light(lambda: equated(closed, 0, 11))), 4 ** 10)
        self.assertEqual(number_of_rows(self.light(lambda: reordered(closed, list(range(11, -1, -1))))), 4 ** 11)
        self.assertEqual(self.light(lambda: closed.walk((3,) * 12))[1:], (9, (3,) * 9 + (2, 0, 0)))

    def test_rows_are_found_one_by_one(self):
        for start in (None, (2,) * 12):
            self.light(lambda: list(islice(ALL.rows(start), 500)))
        self.assertEqual(len(self.light(lambda: ALL.first(500))), 500)

    def test_kinds_from_no_group(self):
        closed = ClosedSet.full(*[ODD] * 12)
        for place in range(6):
            closed = self.light(lambda: equated(closed, place, 11 - place))
        self.assertEqual(number_of_rows(closed), 4 ** 6)
        rows = self.light(lambda: closed.first(100))
        self.assertEqual(rows, [row + row[::-1] for row in islice(all_rows([ODD] * 6), 100)])
        backwards = self.light(lambda: reordered(closed, list(range(12))[::-1]))
        self.assertEqual(backwards, closed)
        interleaved = self.light(lambda: reordered(closed, [0, 11, 1, 10, 2, 9, 3, 8, 4, 7, 5, 6]))
        self.assertEqual([interleaved.classes(place) for place in range(12)],
                         [[[0, 1, 2, 3]], [[0], [1], [2], [3]]] * 6)


class Rules(unittest.TestCase):
    def test_membership(self):
        closed = ruled(ALL, RULES)
        self.assertEqual(number_of_rows(closed), LEFT)
        inside = 0
        for row in some_rows(closed, 300, 1):
            self.assertIs(closed.has(row), allowed_by(RULES, row))
            inside += closed.has(row)
        self.assertGreater(inside, 300)

    def test_neighbours(self):
        closed = ruled(ALL, RULES)
        for row in some_rows(closed, 100, 2):
            after, before = closed.after(row), closed.before(row)
            if after is not None:
                self.assertGreater(after, row)
                self.assertTrue(allowed_by(RULES, after))
                self.assertEqual(closed.before(after), row if closed.has(row) else before)
            if before is not None:
                self.assertLess(before, row)
                self.assertTrue(allowed_by(RULES, before))
                self.assertEqual(closed.after(before), row if closed.has(row) else after)

    def test_rows_of_the_certificate(self):
        closed = ruled(ALL, RULES)
        certificate = closed.certificate()
        self.assertLessEqual(max(sum(len(group) for group in entry) for entry in certificate), 4)
        for place, entry in enumerate(certificate):
            for group in entry:
                for value, row in group:
                    self.assertTrue(allowed_by(RULES, row))
                    self.assertEqual((row[place], row[:place]), (value, group[0][1][:place]))
                    self.assertEqual(row, min(fixed(closed, place, value).rows(row[:place] + (0,) * (12 - place))))
                self.assertEqual(group[0][1], fixed(closed, place, group[0][0]).least())

    def test_restrictions_commute(self):
        expected = ruled(ALL, RULES)
        for order in list(permutations(range(7)))[::631]:
            self.assertEqual(ruled(ALL, [RULES[at] for at in order]), expected)
            self.assertEqual(ruled(ALL, [RULES[at] for at in order]).certificate(), expected.certificate())

    def test_a_restriction_twice_changes_nothing(self):
        closed = ruled(ALL, RULES)
        for rule in RULES:
            self.assertEqual(ruled(closed, [rule]), closed)

    def test_fixed_and_equated_are_restrictions(self):
        closed = ruled(ALL, RULES[:3])
        for place, other in ((0, 11), (5, 3), (7, 7)):
            diagonal = [(value, value) for value in range(4)]
            self.assertEqual(equated(closed, place, other), restricted(closed, [place, other], diagonal))
            both = fixed(equated(closed, place, other), place, 2)
            self.assertEqual(equated(fixed(closed, place, 2), place, other), both)
            self.assertEqual(fixed(equated(closed, place, other), other, 2), both)
            self.assertEqual(fixed(closed, place, 3), restricted(closed, [place], [(3,)]))

    def test_nothing_is_left(self):
        closed = ruled(ALL, RULES[:2] + [([5, 3, 9], [(0, 1, 1)]), ([9, 11], [(1, 0)])])
        self.assertFalse(closed.is_empty)
        self.assertEqual(fixed(closed, 5, 1), ClosedSet.empty(*[FOUR] * 12))
        self.assertIs(fixed(closed, 0, 1).certificate(), None)


class OrdersOfPlaces(unittest.TestCase):
    ORDERS = [list(range(12))[::-1], [5, 0, 9, 3, 11, 7, 2, 8, 4, 1, 10, 6], [1, 0, *range(2, 12)],
              [11, *range(11)], [*range(1, 12), 0], (6, 7, 8, 9, 10, 11, 0, 1, 2, 3, 4, 5)]

    def test_restrictions_follow_orders(self):
        closed = ruled(ALL, RULES[:4])
        for order in self.ORDERS:
            back = [order.index(place) for place in range(12)]
            moved = [([back[place] for place in places], rows) for places, rows in RULES]
            self.assertEqual(reordered(ruled(closed, RULES[4:]), order), ruled(reordered(closed, order), moved[4:]))
            self.assertEqual(ruled(reordered(ALL, order), moved), reordered(ruled(ALL, RULES), order))
            self.assertEqual(reordered(reordered(closed, order), back), closed)
            result = reordered(closed, order)
            self.assertEqual(reordered(equated(closed, 1, 8), order), equated(result, back[8], back[1]))
            self.assertEqual(reordered(fixed(closed, 9, 3), order), fixed(result, back[9], 3))

    def test_membership_follows_orders(self):
        closed = ruled(ALL, RULES)
        for order in self.ORDERS:
            result = reordered(closed, order)
            for row in some_rows(closed, 20, 3):
                self.assertIs(result.has(tuple(row[place] for place in order)), closed.has(row))


class MixedKinds(unittest.TestCase):
    KINDS = [ODD, LATCH, NIM, BIT, ONE, THREE, ODD, NIM, LATCH, BIT, odd_kind(3, 6), odd_kind(2, 4)]

    def rules(self):
        """Some closed lists of rows for up to three places, no two of them alike."""
        source = numbers(7)
        many = [row for row in all_rows([BIT] * 3)]
        for bits in many[1:]:
            places = [next(source) % 12 for _ in range(1 + sum(bits) % 3)]
            kinds = [self.KINDS[place] for place in places]
            # All rules have the values of one row of twelve places, so that they leave something.
            begin = [tuple(place % kind.size for place, kind in zip(places, kinds)),
                     tuple(next(source) % kind.size for kind in kinds)]
            yield places, plain_closure(kinds, begin)

    def test_rules(self):
        rules = list(self.rules())
        closed = ruled(ClosedSet.full(*self.KINDS), rules)
        self.assertGreater(len(closed.first(1000)), 200)
        inside = 0
        for row in some_rows(closed, 200, 5):
            self.assertIs(closed.has(row), allowed_by(rules, row))
            inside += closed.has(row)
        self.assertGreater(inside, 100)
        self.assertEqual(ruled(ClosedSet.full(*self.KINDS), rules[::-1]), closed)
        for order in OrdersOfPlaces.ORDERS:
            moved = [([order.index(place) for place in places], rows) for places, rows in rules]
            full = ClosedSet.full(*[self.KINDS[place] for place in order])
            self.assertEqual(ruled(full, moved), reordered(closed, order))

    def test_the_sets_are_closed(self):
        closed = ruled(ClosedSet.full(*self.KINDS), list(self.rules()))
        rows = [row for row in some_rows(closed, 60, 8) if closed.has(row)]
        for x, y, z in zip(rows, rows[1:], rows[2:]):
            self.assertIs(closed.has(combine(closed.kinds, x, y, z)), True)


if __name__ == "__main__":
    unittest.main()
