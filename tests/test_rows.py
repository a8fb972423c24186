"""Promises [2], [5] and [6], interface keptbythree.rows."""

import copy
import unittest
from itertools import combinations, product

from keptbythree.errors import BadRow
from keptbythree.kinds import Kind
from keptbythree.rows import closure, combine, is_row, missing
from samples import (BIT, HUGE, LATCH, ONE, all_rows, any_values, nested, numbers, odd_kind, plain_closure,
                     plain_combination, plain_missing)

THREE = Kind.cyclic(3)
FOUR = Kind.cyclic(4)
TWOS = [Kind.free(2, entries) for entries in product((0, 1), repeat=2)]
MIXED = [[], [ONE], [ONE, ONE, ONE], [FOUR], [odd_kind(4, 2)], [BIT, THREE], [odd_kind(3, 5), LATCH],
         [LATCH, ONE, BIT], [odd_kind(3, 8), odd_kind(3, 9)], [FOUR, odd_kind(3, 4)], [BIT, LATCH, THREE]]


def some_rows(kinds, many, source):
    """As many rows, in no order and perhaps with duplicates."""
    return [tuple(next(source) % kind.size for kind in kinds) for _ in range(many)]


class IsRow(unittest.TestCase):
    def test_rows(self):
        for kinds in MIXED:
            for row in all_rows(kinds):
                self.assertIs(is_row(kinds, row), True)
                self.assertIs(is_row(tuple(kinds), row), True)

    def test_wrong_lengths_and_values(self):
        kinds = [BIT, THREE]
        for row in [(), (0,), (0, 0, 0), (2, 0), (0, 3), (-1, 0), (0, -1), (HUGE, 0), (0, -HUGE)]:
            self.assertIs(is_row(kinds, row), False)

    def test_each_place_has_its_own_kind(self):
        self.assertIs(is_row([BIT, THREE], (1, 2)), True)
        self.assertIs(is_row([BIT, THREE], (2, 1)), False)

    def test_true_is_not_one(self):
        for row in [(True, 0), (0, True), (False, 0), (True, False)]:
            self.assertIs(is_row([BIT, BIT], row), False)

    def test_all_else(self):
        for kinds, rows in [([BIT, BIT], ["(0, 0)"]), ([ONE], ["(0,)"]), ([], ["()"])]:
            for thing in any_values():
                self.assertIs(is_row(kinds, thing), repr(thing) in rows, thing)

    def test_without_places(self):
        self.assertIs(is_row([], ()), True)
        self.assertIs(is_row((), ()), True)
        self.assertIs(is_row([], []), False)
        self.assertIs(is_row((), None), False)
        self.assertIs(is_row((), (0,)), False)

    def test_deep_things(self):
        self.assertIs(is_row([BIT], nested(8, 0)), False)
        self.assertIs(is_row([BIT], (nested(3000, 0),)), False)

    def test_arguments_are_not_changed(self):
        kinds = [BIT, THREE]
        thing = [0, [1]]
        self.assertIs(is_row(kinds, thing), False)
        self.assertEqual((kinds, thing), ([BIT, THREE], [0, [1]]))


class Combine(unittest.TestCase):
    def test_example(self):
        self.assertEqual(combine([BIT, LATCH], (0, 0), (1, 1), (0, 0)), (1, 0))

    def test_place_by_place(self):
        for kinds in MIXED:
            for x, y, z in product(all_rows(kinds)[:9], repeat=3):
                self.assertEqual(combine(kinds, x, y, z), plain_combination(kinds, x, y, z))
                self.assertEqual(combine(tuple(kinds), x, y, z), plain_combination(kinds, x, y, z))

    def test_without_places(self):
        self.assertEqual(combine([], (), (), ()), ())

    def test_twelve_places(self):
        kinds = [FOUR, LATCH, THREE] * 4
        x, y, z = (3, 1, 2) * 4, (1, 0, 2) * 4, (2, 1, 0) * 4
        self.assertEqual(combine(kinds, x, y, z), plain_combination(kinds, x, y, z))

    def test_a_row_with_itself(self):
        kinds = [odd_kind(4, 3), odd_kind(3, 3)]
        for x, y in product(all_rows(kinds), repeat=2):
            self.assertEqual([combine(kinds, x, y, y), combine(kinds, y, y, x)], [x, x])


class Missing(unittest.TestCase):
    def test_example(self):
        self.assertEqual(missing([BIT, BIT], [(0, 0), (0, 1), (1, 0)]), ((0, 0), (0, 1), (1, 0)))

    def test_every_list_of_rows_of_two_small_kinds(self):
        for kinds in product(TWOS, repeat=2):
            rows = all_rows(kinds)
            for taken in product((False, True), repeat=4):
                given = [row for row, is_taken in zip(rows, taken) if is_taken]
                self.assertEqual(missing(kinds, given), plain_missing(kinds, given))

    def test_lists_of_rows_of_larger_kinds(self):
        source = numbers(1)
        for kinds in MIXED:
            for many in range(7):
                given = some_rows(kinds, many, source)
                expected = plain_missing(kinds, given)
                self.assertEqual(missing(kinds, given), expected)
                self.assertEqual(missing(tuple(kinds), given[::-1] + given), expected)

    def test_closed_lists(self):
        source = numbers(2)
        for kinds in MIXED:
            for many in range(4):
                given = plain_closure(kinds, some_rows(kinds, many, source))
                self.assertIsNone(missing(kinds, given))
                self.assertIsNone(missing(kinds, given[::-1] + given[:2]))

    def test_one_row_away_from_closed(self):
        for kinds in [[BIT, BIT, BIT], [LATCH, THREE], [odd_kind(4, 1)]]:
            rows = all_rows(kinds)
            for row in rows:
                given = [other for other in rows if other != row]
                self.assertEqual(missing(kinds, given), plain_missing(kinds, given))

    def test_nothing_and_one_row(self):
        self.assertIsNone(missing([], []))
        self.assertIsNone(missing([], [()]))
        self.assertIsNone(missing((), [(), ()]))
        self.assertIsNone(missing([BIT, BIT], []))
        self.assertIsNone(missing([odd_kind(4, 6)], [(3,)]))
        self.assertIsNone(missing([ONE, ONE], [(0, 0), (0, 0)]))

    def test_sixty_four_rows(self):
        kinds = [BIT] * 12
        given = [row + row for row in product((0, 1), repeat=6)]
        self.assertIsNone(missing(kinds, given[::-1]))
        given = given[:-1] + [(1,) * 11 + (0,)]
        triple = missing(kinds, given)
        self.assertEqual(triple, ((0,) * 12, (0, 0, 0, 0, 0, 1) * 2, (1, 1, 1, 1, 1, 0) * 2))

    def test_a_triple_is_of_rows(self):
        triple = missing([BIT, BIT], [(1, 0), (0, 0), (0, 1)])
        self.assertEqual([triple.__class__, [row.__class__ for row in triple]], [tuple, [tuple] * 3])


class Closure(unittest.TestCase):
    def test_example(self):
        self.assertEqual(closure([BIT, LATCH], [(0, 0), (1, 1)]), [(0, 0), (0, 1), (1, 0), (1, 1)])

    def test_every_list_of_rows_of_two_small_kinds(self):
        for kinds in product(TWOS, repeat=2):
            rows = all_rows(kinds)
            for taken in product((False, True), repeat=4):
                given = [row for row, is_taken in zip(rows, taken) if is_taken]
                self.assertEqual(closure(kinds, given), plain_closure(kinds, given))

    def test_lists_of_rows_of_larger_kinds(self):
        source = numbers(3)
        for kinds in MIXED:
            for many in range(5):
                given = some_rows(kinds, many, source)
                expected = plain_closure(kinds, given)
                self.assertEqual(closure(kinds, given), expected)
                self.assertEqual(closure(tuple(kinds), given[::-1] + given), expected)
                self.assertIsNone(plain_missing(kinds, expected))

    def test_triples_of_rows_found_late(self):
        for seed in range(120):
            kinds = [odd_kind(4, seed)]
            for given in combinations([(3,), (0,), (2,), (1,)], 3):
                self.assertEqual(closure(kinds, list(given)), plain_closure(kinds, given))

    def test_large_closures(self):
        self.assertEqual(closure([FOUR] * 3, [(0, 0, 0), (1, 0, 0), (0, 1, 0), (0, 0, 1)]), all_rows([FOUR] * 3))
        even = [row for row in all_rows([FOUR] * 3) if sum(row) % 2 == 0]
        self.assertEqual(closure([FOUR] * 3, [(0, 0, 0), (2, 0, 0), (1, 1, 0), (0, 1, 1), (1, 0, 1)]), even)
        self.assertEqual(closure([FOUR] * 3, even[::-1]), even)

    def test_somewhat_more_than_three_kinds(self):
        given = [(0, 0, 0, 0, 0), (0, 0, 1, 1, 0), (1, 0, 0, 1, 1)]
        self.assertEqual(closure([BIT] * 5, given), plain_closure([BIT] * 5, given))

    def test_nothing_and_one_row(self):
        self.assertEqual(closure([], []), [])
        self.assertEqual(closure([], [()]), [()])
        self.assertEqual(closure((), [(), ()]), [()])
        self.assertEqual(closure([BIT, THREE], []), [])
        self.assertEqual(closure([odd_kind(4, 6)], [(3,), (3,)]), [(3,)])
        self.assertEqual(closure([ONE, ONE], [(0, 0)]), [(0, 0)])

    def test_a_new_list_each_time(self):
        for given in ([], [(0, 0)], [(0, 0), (0, 1)], all_rows([BIT, BIT])):
            first = closure([BIT, BIT], given)
            self.assertEqual(first, given)
            self.assertIsNot(first, given)
            first.append("x")
            self.assertEqual(closure([BIT, BIT], given), given)


class WrongRows(unittest.TestCase):
    def check_bad(self, kinds, rows, wrong):
        for function in (missing, closure):
            with self.assertRaises(BadRow) as caught:
                function(kinds, rows)
            self.assertEqual(repr(caught.exception.row), repr(wrong))

    def test_any_value_that_is_no_row(self):
        for kinds in ([], [ONE], [BIT, BIT], [BIT, THREE, FOUR]):
            for thing in any_values():
                if not is_row(kinds, thing):
                    self.check_bad(kinds, [thing], thing)
                    self.check_bad(tuple(kinds), [(0,) * len(kinds), thing, None], thing)

    def test_the_first_of_several(self):
        self.check_bad([BIT, BIT], [(1, 1), (0, 2), (0, 0), (2, 0), None], (0, 2))
        self.check_bad([BIT, BIT], [(1, 1), [0, 0], (0, True)], [0, 0])
        self.check_bad([BIT, BIT], [(1, 1), (0, True), [0, 0]], (0, True))
        self.check_bad([BIT, BIT], [(0, 1), (False, 1)], (False, 1))
        self.check_bad([BIT, BIT], [(0, 0), (0, 1), (1, 0), (1, 0, 0)], (1, 0, 0))

    def test_a_true_that_equals_an_earlier_row(self):
        self.check_bad([BIT], [(1,), (True,)], (True,))
        self.check_bad([BIT], [(False,), (0,)], (False,))

    def test_no_places(self):
        self.check_bad([], [(), (0,)], (0,))
        self.check_bad([], [[]], [])
        self.check_bad((), [None], None)

    def test_the_error_has_a_copy(self):
        wrong = [0, [1]]
        with self.assertRaises(BadRow) as caught:
            missing([BIT, BIT], [(0, 0), wrong])
        wrong[1].append(2)
        self.assertEqual(caught.exception.row, [0, [1]])
        caught.exception.row.append(3)
        self.assertEqual(wrong, [0, [1, 2]])


class Calls(unittest.TestCase):
    def test_arguments_are_not_changed(self):
        kinds = [BIT, LATCH]
        for given in ([(1, 1), (0, 0), (1, 1)], [], [(1, 1), [0, [0]], (0, 0)]):
            before = copy.deepcopy(given)
            for function in (missing, closure):
                try:
                    function(kinds, given)
                except BadRow:
                    pass
            self.assertEqual(given, before)
            self.assertEqual(kinds, [BIT, LATCH])

    def test_equal_calls_have_equal_results(self):
        given = [(1, 1), (0, 0)]
        self.assertEqual(missing([BIT, BIT], given), missing([BIT, BIT], given))
        self.assertEqual(closure([BIT, BIT], given), closure([BIT, BIT], given))

    def test_calls_by_name(self):
        self.assertIs(is_row(thing=(1, 2), kinds=[BIT, THREE]), True)
        self.assertIs(is_row(thing=(2, 1), kinds=[BIT, THREE]), False)
        self.assertEqual(combine(z=(1, 0), y=(1, 1), x=(0, 1), kinds=[BIT, LATCH]),
                         plain_combination([BIT, LATCH], (0, 1), (1, 1), (1, 0)))
        self.assertEqual(combine([FOUR], z=(3,), x=(0,), y=(1,)), (2,))
        self.assertEqual(missing(rows=[(0, 0), (0, 1), (1, 0)], kinds=[BIT, BIT]), ((0, 0), (0, 1), (1, 0)))
        self.assertEqual(closure(rows=[(0, 0), (1, 1)], kinds=[BIT, BIT]), [(0, 0), (1, 1)])


if __name__ == "__main__":
    unittest.main()
